"""Promises 10 to 13: kinds, values, their order, how many there are and which."""

import unittest

from firstclause.errors import InvalidKinds
from firstclause.values import count_values, is_value, nth_value, place, size_of
from tests.support import GARDEN, GRID, LONG, MIXED, NEST, PAIRS, assert_raises, assert_same, values_of_size


def catalan(number):
    found = 1
    for step in range(number):
        found = found * 2 * (2 * step + 1) // (step + 2)
    return found


class Examples(unittest.TestCase):
    def test_examples_of_the_document(self):
        kinds = GARDEN
        assert_same(self, [is_value(kinds, "tree", ("fork", ("leaf", 1), ("leaf", 4))),
                           size_of(kinds, "tree", ("fork", ("leaf", 1), ("leaf", 3))),
                           size_of(kinds, "list", [])], [False, 5, 1])
        assert_same(self, ([count_values(kinds, "tree", size) for size in (0, 1, 2, 5, 8)],
                           count_values(kinds, "list", 3)), ([0, 0, 3, 9, 54], 9))
        assert_same(self, [nth_value(kinds, "tree", 5, 5), place(kinds, "list", [2, 1]),
                           nth_value(kinds, "list", 2, 3)], [("fork", ("leaf", 2), ("leaf", 3)), 3, None])


class Kinds(unittest.TestCase):
    def assert_kinds(self, kinds):
        kind = list(kinds)[0]
        self.assertIn(is_value(kinds, kind, None), (True, False), kinds)

    def assert_no_kinds(self, kinds):
        assert_raises(self, InvalidKinds, kinds, is_value, [kinds, "a", 1])
        assert_raises(self, InvalidKinds, kinds, count_values, [kinds, "a", 1])

    def test_each_form_is_taken(self):
        for form in (("numbers", 0, 0), ("numbers", -5, 10 ** 30), ("words", ["b"]), ("words", ["a", "words", "z"]),
                     ("makers", [("m", [])]), ("makers", [("m", []), ("a", ["a", "a"])]),
                     ("makers", [("m", ["a"]), ("n", [])]), ("rows", "a")):
            self.assert_kinds({"a": form})

    def test_the_same_words_and_makers_may_stand_in_several_kinds(self):
        self.assert_kinds({"a": ("words", ["a", "b"]), "b": ("words", ["a", "b"]),
                           "c": ("makers", [("a", []), ("b", ["a"])]), "d": ("makers", [("a", [])])})

    def test_what_is_no_dictionary_with_kinds(self):
        for kinds in (None, True, 0, "a", [], (), {}, [("a", ("numbers", 1, 2))], (("a", ("rows", "a")),)):
            self.assert_no_kinds(kinds)

    def test_names_of_kinds(self):
        for name in ("a", "abcdefghij", "zzzzzzzzzz", "numbers", "z"):
            self.assert_kinds({name: ("rows", name)})
        for name in ("", "abcdefghijk", "A", "aB", "a1", "a b", " a", "a\n", "a_", "-", "`", "{", None, 1, True, (),
                     ("a",)):
            self.assert_no_kinds({name: ("numbers", 1, 2)})
            self.assert_no_kinds({"a": ("numbers", 1, 2), name: ("numbers", 1, 2)})

    def test_forms_that_are_none(self):
        for form in (None, True, 1, "numbers", [], (), {}, ["numbers", 1, 2], ("numbers",), ("words",), ("makers",),
                     ("rows",), (["numbers"], 1, 2), ({}, []), ("number", 1, 2), ("", ["a"]), (None, None),
                     {"numbers": (1, 2)}, ("numbers", [1, 2]), ("words", "b", "c"), (("rows",), "a")):
            self.assert_no_kinds({"a": form})
            self.assert_no_kinds({"a": ("rows", "a"), "b": form})

    def test_bounds_of_numbers(self):
        for low, high in ((2, 1), (0, -1), (10 ** 29 + 1, 10 ** 29), (True, 2), (0, True), (False, False), (None, 1),
                          (1, None), ("1", 2), (1, "2"), ([], 1), (1, {}), (1, (2,))):
            self.assert_no_kinds({"a": ("numbers", low, high)})
        self.assert_no_kinds({"a": ("numbers", 1)})
        self.assert_no_kinds({"a": ("numbers", 1, 2, 3)})

    def test_words(self):
        for words in ([], ["b", "b"], ["b", "c", "b"], ("b",), {"b": 1}, "b", None, [""], ["abcdefghijk"], ["B"],
                      ["b", 1], [None], [["b"]], [("b",)], [{}], [True], ["b "], ["b", "c1"]):
            self.assert_no_kinds({"a": ("words", words)})
        self.assert_no_kinds({"a": ("words", ["b"], ["c"])})

    def test_makers(self):
        for makers in ([], (), None, "m", {}, {"m": []}, (("m", []),), [["m", []]], [("m",)], [("m", [], [])], ["m"],
                       [("m", ())], [("m", None)], [("m", "a")], [("m", {})], [("", [])], [("M", [])], [(1, [])],
                       [(None, [])], [([], [])], [({}, [])], [("abcdefghijk", [])], [("m", []), ("m", [])],
                       [("m", []), ("n", []), ("m", ["a"])], [("m", []), ("n", ["b"])], [("m", []), ("n", [None])],
                       [("m", []), ("n", [["a"]])], [("m", []), ("n", [{}])], [("m", []), ("n", ["a", 1])],
                       [("m", []), None]):
            self.assert_no_kinds({"a": ("makers", makers)})

    def test_cells(self):
        for cell in ("b", "", None, 1, [], ["a"], ("a",), {}, True):
            self.assert_no_kinds({"a": ("rows", cell)})
        self.assert_no_kinds({"a": ("rows", "a", "a")})

    def test_each_kind_needs_a_value(self):
        self.assert_no_kinds({"a": ("rows", "b"), "b": ("makers", [("m", ["b"])])})
        self.assert_kinds({"a": ("rows", "b"), "b": ("makers", [("m", ["a"])])})
        self.assert_no_kinds({"a": ("makers", [("m", ["a"])])})
        self.assert_no_kinds({"a": ("makers", [("m", ["b"])]), "b": ("makers", [("n", ["a"])])})
        self.assert_no_kinds({"a": ("makers", [("m", ["b", "a"]), ("n", ["a", "b"])]), "b": ("numbers", 1, 2)})
        self.assert_no_kinds({"a": ("numbers", 1, 1), "b": ("makers", [("m", ["a", "b"])])})

    def test_a_value_may_need_the_kinds_behind(self):
        kinds = {"a": ("makers", [("m", ["b", "b"])]), "b": ("makers", [("n", ["c"])]),
                 "c": ("makers", [("o", ["d"]), ("p", ["a"])]), "d": ("makers", [("q", ["d"]), ("r", [])])}
        self.assert_kinds(kinds)
        self.assertEqual(count_values(kinds, "a", 7), 1)


class Values(unittest.TestCase):
    def test_numbers(self):
        kinds = {"a": ("numbers", -2, 10 ** 25)}
        for value in (-2, -1, 0, 1, 10 ** 25):
            self.assertIs(is_value(kinds, "a", value), True)
        for value in (-3, 10 ** 25 + 1, True, False, None, "1", [1], (1,), {}):
            self.assertIs(is_value(kinds, "a", value), False)

    def test_words(self):
        for value in ("x", "y"):
            self.assertIs(is_value(MIXED, "word", value), True)
        for value in ("z", "", "X", "xy", None, 1, True, [], ["x"], ("x",), {}, {"x": 1}):
            self.assertIs(is_value(MIXED, "word", value), False)

    def test_tuples(self):
        for value in (("zip",), ("end",), ("call", "x", []), ("add", ("zip",), -1),
                      ("call", "y", [("zip",), ("add", ("call", "x", [("end",)]), 1)])):
            self.assertIs(is_value(MIXED, "term", value), True, value)
        for value in ((), "zip", ["zip"], ("zip", 1), ("zip", []), ("zip", None), ("call", "x"), ("call", "x", ()),
                      ("call", "x", [], []), ("call", "z", []), ("call", [], "x"), ("add", ("zip",), 2),
                      ("add", ("zip",), True), ("add", ["zip"], 1), ("none",), (None,), ([],), ({}, 1), (("zip",),),
                      {"zip": ()}, None, 0, True, ("call", "x", [("zip", 1)]), ("call", "x", [["zip"]]),
                      ("call", "x", {}), ("call", "x", "x"), ("add", {}, 1)):
            self.assertIs(is_value(MIXED, "term", value), False, value)

    def test_rows(self):
        for value in ([], [1], [3, 1, 2, 1, 3]):
            self.assertIs(is_value(GARDEN, "list", value), True)
        for value in ((), (1,), None, {}, "", 1, True, [True], [4], [1, 4], [1, [2]], [[1]], [(1,)], [None], {1: 2}):
            self.assertIs(is_value(GARDEN, "list", value), False)

    def test_values_of_unlike_kinds_are_not_taken_for_one_another(self):
        self.assertIs(is_value(GARDEN, "small", ("leaf", 1)), False)
        self.assertIs(is_value(GARDEN, "tree", 1), False)
        self.assertIs(is_value(GARDEN, "list", 1), False)
        self.assertIs(is_value(GRID, "grid", [["one"], []]), True)
        self.assertIs(is_value(GRID, "grid", ["one"]), False)
        self.assertIs(is_value(GRID, "line", [[]]), False)

    def test_any_object_nested_deeply(self):
        wrong, right = {}, []
        for _ in range(39):
            wrong, right = [wrong], [right]
        self.assertIs(is_value(NEST, "nest", wrong), False)
        self.assertIs(is_value(NEST, "nest", right), True)
        self.assertIs(is_value(NEST, "nest", [right[0], wrong]), False)
        self.assertIs(is_value(GARDEN, "list", [1, 2, 3] * 19 + [1]), True)
        self.assertIs(is_value(GARDEN, "list", [1, 2, 3] * 19 + [0]), False)

    def test_sizes(self):
        for kinds, kind, value, size in ((GARDEN, "small", 2, 1), (MIXED, "word", "x", 1), (MIXED, "term", ("zip",), 1),
                                         (MIXED, "term", ("call", "x", []), 3), (MIXED, "args", [], 1),
                                         (MIXED, "args", [("zip",), ("add", ("end",), 0)], 5),
                                         (GARDEN, "tree", ("leaf", 1), 2), (GARDEN, "list", [1, 1, 1], 4),
                                         (GRID, "grid", [[], ["one", "nil"], []], 6), (NEST, "nest", [[[]], []], 4),
                                         (LONG, "row", [10 ** 20 - 1], 2)):
            assert_same(self, size_of(kinds, kind, value), size)


class Order(unittest.TestCase):
    def listed(self, kinds, kind, size):
        return [nth_value(kinds, kind, size, number) for number in range(count_values(kinds, kind, size))]

    def test_numbers_by_themselves(self):
        assert_same(self, self.listed(MIXED, "num", 1), [-1, 0, 1])

    def test_words_and_makers_as_listed(self):
        assert_same(self, self.listed(MIXED, "word", 1), ["y", "x"])
        assert_same(self, self.listed(MIXED, "term", 1), [("zip",), ("end",)])
        assert_same(self, self.listed(MIXED, "term", 3), [
            ("call", "y", []), ("call", "x", []),
            ("add", ("zip",), -1), ("add", ("zip",), 0), ("add", ("zip",), 1),
            ("add", ("end",), -1), ("add", ("end",), 0), ("add", ("end",), 1)])

    def test_unlike_parts_by_their_size_first(self):
        assert_same(self, self.listed(PAIRS, "pair", 4), [
            ("pair", [], [4]), ("pair", [], [5]), ("pair", [4], []), ("pair", [5], []),
            ("line", [4, 4]), ("line", [4, 5]), ("line", [5, 4]), ("line", [5, 5])])

    def test_unlike_parts_not_by_their_maker_first(self):
        kinds = {"a": ("makers", [("two", ["a", "a"]), ("zip", [])])}
        assert_same(self, self.listed(kinds, "a", 5), [
            ("two", ("zip",), ("two", ("zip",), ("zip",))), ("two", ("two", ("zip",), ("zip",)), ("zip",))])

    def test_unlike_cells_by_their_size_first_and_not_by_the_lengths_of_rows(self):
        assert_same(self, self.listed(GRID, "grid", 4), [
            [[], [], []], [[], ["one"]], [[], ["nil"]], [["one"], []], [["nil"], []],
            [["one", "one"]], [["one", "nil"]], [["nil", "one"]], [["nil", "nil"]]])
        assert_same(self, self.listed(NEST, "nest", 4), [
            [[], [], []], [[], [[]]], [[[]], []], [[[], []]], [[[[]]]]])

    def test_all_values_of_lesser_sizes_against_a_plain_list(self):
        for kinds, greatest in ((GARDEN, 8), (MIXED, 6), (NEST, 7), (GRID, 6), (PAIRS, 6)):
            for kind in kinds:
                for size in range(greatest + 1):
                    with self.subTest(kinds=kinds, kind=kind, size=size):
                        expected = values_of_size(kinds, kind, size)
                        self.assertEqual(count_values(kinds, kind, size), len(expected))
                        assert_same(self, self.listed(kinds, kind, size), expected)
                        assert_same(self, [place(kinds, kind, value) for value in expected],
                                    list(range(len(expected))))
                        self.assertTrue(all(is_value(kinds, kind, value) for value in expected))
                        self.assertTrue(all(size_of(kinds, kind, value) == size for value in expected))


class Counts(unittest.TestCase):
    def test_no_value_has_size_0(self):
        for kinds in (GARDEN, MIXED, NEST, GRID, LONG):
            for kind in kinds:
                assert_same(self, count_values(kinds, kind, 0), 0)
                self.assertIsNone(nth_value(kinds, kind, 0, 0))

    def test_numbers_and_words_have_size_1(self):
        assert_same(self, [count_values(MIXED, "num", size) for size in (0, 1, 2, 30)], [0, 3, 0, 0])
        assert_same(self, [count_values(MIXED, "word", size) for size in (0, 1, 2, 30)], [0, 2, 0, 0])
        assert_same(self, count_values({"a": ("numbers", 7, 7)}, "a", 1), 1)
        assert_same(self, nth_value({"a": ("numbers", 7, 7)}, "a", 1, 0), 7)

    def test_a_maker_without_parts(self):
        kinds = {"a": ("makers", [("m", []), ("n", [])])}
        assert_same(self, [count_values(kinds, "a", size) for size in range(4)], [0, 2, 0, 0])
        assert_same(self, [nth_value(kinds, "a", 1, number) for number in range(3)], [("m",), ("n",), None])
        assert_same(self, place(kinds, "a", ("n",)), 1)

    def test_sizes_up_to_30(self):
        self.assertEqual(count_values(GARDEN, "tree", 29), catalan(9) * 3 ** 10)
        self.assertEqual(count_values(GARDEN, "tree", 30), 0)
        self.assertEqual(count_values(GARDEN, "list", 30), 3 ** 29)
        self.assertEqual(count_values(NEST, "nest", 30), catalan(29))

    def test_ranges_of_any_size(self):
        digits = 10 ** 20
        self.assertEqual(count_values(LONG, "row", 30), digits ** 29)
        number = digits * 5 + 7
        assert_same(self, nth_value(LONG, "row", 3, number), [5, 7])
        assert_same(self, place(LONG, "row", [5, 7]), number)
        assert_same(self, nth_value(LONG, "row", 30, digits ** 29 - 1), [digits - 1] * 29)
        self.assertIsNone(nth_value(LONG, "row", 30, digits ** 29))
        wide = {"a": ("numbers", -10 ** 29, 10 ** 29), "b": ("makers", [("m", ["a", "a"]), ("n", ["b", "b"])])}
        self.assertEqual(count_values(wide, "a", 1), 2 * 10 ** 29 + 1)
        assert_same(self, place(wide, "a", 10 ** 29), 2 * 10 ** 29)
        self.assertEqual(count_values(wide, "b", 27), catalan(6) * (2 * 10 ** 29 + 1) ** 14)
        last = nth_value(wide, "b", 27, count_values(wide, "b", 27) - 1)
        self.assertEqual(place(wide, "b", last), count_values(wide, "b", 27) - 1)

    def test_the_last_number_and_the_one_behind(self):
        for kinds, kind, size in ((GARDEN, "tree", 29), (GARDEN, "list", 30), (NEST, "nest", 30), (MIXED, "term", 30),
                                  (MIXED, "args", 29), (GRID, "grid", 30), (PAIRS, "pair", 30)):
            many = count_values(kinds, kind, size)
            self.assertGreater(many, 0)
            for number in (0, 1, many // 3, many // 2, many - 2, many - 1):
                value = nth_value(kinds, kind, size, number)
                self.assertEqual(size_of(kinds, kind, value), size)
                assert_same(self, place(kinds, kind, value), number)
            for number in (many, many + 1, 10 ** 29, 10 ** 699):
                self.assertIsNone(nth_value(kinds, kind, size, max(many, number)))

    def test_the_order_of_kinds_does_not_matter(self):
        turned = {kind: MIXED[kind] for kind in reversed(list(MIXED))}
        for size in range(12):
            self.assertEqual(count_values(MIXED, "term", size), count_values(turned, "term", size))
        assert_same(self, nth_value(turned, "args", 20, 12345), nth_value(MIXED, "args", 20, 12345))


if __name__ == "__main__":
    unittest.main()
