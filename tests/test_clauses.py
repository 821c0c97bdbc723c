"""Promises 20 to 22: patterns, what they fit, and which clause takes a value."""

import unittest

from firstclause.clauses import fits, label, taker
from firstclause.errors import InvalidClauses, InvalidPattern
from tests.support import GARDEN, GARDEN_CLAUSES, GRID, LONG, MIXED, NEST, assert_raises, assert_same, values_of_size


class Examples(unittest.TestCase):
    def test_examples_of_the_document(self):
        kinds, clauses = GARDEN, GARDEN_CLAUSES
        values = (("leaf", 2), ("fork", ("leaf", 1), ("leaf", 1)), ("fork", ("leaf", 1), ("leaf", 2)))
        assert_same(self, [label(kinds, "tree", clauses, value) for value in values], ["leaf", None, "right"])
        ends = ("gap", [("from", 1, 1)], [("from", 3, None)])
        assert_same(self, [fits(kinds, "list", ends, row) for row in ([1, 3], [1], [1, 2, 3], [2, 3], [1, 3, 2])],
                    [True, False, True, False, False])
        assert_same(self, [taker(kinds, "tree", clauses, ("fork", ("fork", ("leaf", 1), ("leaf", 1)), ("leaf", 3))),
                           fits(kinds, "small", ("or", [("from", None, 1), ("from", 3, None)]), 2)], [0, False])


class Patterns(unittest.TestCase):
    def assert_patterns(self, kinds, kind, patterns):
        value = values_of_size(kinds, kind, 1)[0]
        for pattern in patterns:
            with self.subTest(pattern=pattern):
                self.assertIn(fits(kinds, kind, pattern, value), (True, False))

    def assert_no_patterns(self, kinds, kind, patterns):
        value = values_of_size(kinds, kind, 1)[0]
        for pattern in patterns:
            with self.subTest(pattern=pattern):
                assert_raises(self, InvalidPattern, pattern, fits, [kinds, kind, pattern, value])
                within = ("or", [None, ("or", [pattern])])
                assert_raises(self, InvalidPattern, within, fits, [kinds, kind, within, value])

    def test_what_is_a_pattern_of_no_kind(self):
        for kind in MIXED:
            self.assert_no_patterns(MIXED, kind, [
                True, False, 0, 1, "", "or", "x", [], {}, (), (None,), ("or",), ("or", []), ("or", None), ("or", ()),
                ("or", (None,)), ("or", {}), ("or", [None], [None]), ("or", None, None), ["or", [None]], ("or", [0]),
                ("or", [[]]), ("or", [{}]), ("or", [()]), ([], [None]), ({}, {}), ("and", [None]), ("Or", [None]),
                (None, [None]), ("or", [None, ("or", [])]), {"or": [None]}])

    def test_patterns_of_numbers(self):
        self.assert_patterns(MIXED, "num", [None, ("from", None, None), ("from", 0, None), ("from", None, -10 ** 29),
                                            ("from", 5, -5), ("from", 10 ** 29, 10 ** 29), ("or", [None, None])])
        self.assert_no_patterns(MIXED, "num", [
            ("from",), ("from", 1), ("from", 1, 2, 3), ["from", 1, 2], ("from", True, 2), ("from", 0, False),
            ("from", "0", 1), ("from", 0, "1"), ("from", [], 1), ("from", 1, {}), ("from", (1,), None),
            ("from", [1, 2]), ("From", 1, 2), ("word", "x"), ("maker", "zip", []), ("row", []), ("gap", [], []),
            (1, 2, 3), 1])

    def test_patterns_of_words(self):
        self.assert_patterns(MIXED, "word", [None, ("word", "x"), ("or", [("word", "y"), ("or", [("word", "x")])])])
        self.assert_no_patterns(MIXED, "word", [
            ("word",), ("word", "z"), ("word", ""), ("word", "x", "y"), ["word", "x"], ("word", ["x"]), ("word", None),
            ("word", 1), ("word", {}), ("Word", "x"), "x", ("x",), ("from", 1, 2), ("maker", "x", []), ("row", []),
            ("gap", [], []), ("or", ["x"])])

    def test_patterns_of_makers(self):
        self.assert_patterns(MIXED, "term", [
            None, ("maker", "zip", []), ("maker", "call", [("word", "x"), None]),
            ("maker", "call", [None, ("gap", [("maker", "end", [])], [])]),
            ("maker", "add", [("or", [("maker", "zip", []), None]), ("from", 1, None)])])
        self.assert_no_patterns(MIXED, "term", [
            ("maker",), ("maker", "zip"), ("maker", "zip", [], []), ["maker", "zip", []], ("maker", "zip", ()),
            ("maker", "zip", None), ("maker", "zip", [None]), ("maker", "call", []), ("maker", "call", [None]),
            ("maker", "call", [None, None, None]), ("maker", "call", (None, None)), ("maker", "none", []),
            ("maker", None, []), ("maker", [], []), ("maker", {}, []), ("maker", "x", [None, None]),
            ("maker", "call", [None, ("word", "x")]), ("maker", "call", [("row", []), None]),
            ("maker", "add", [None, 1]), ("maker", "add", [("zip",), None]), ("maker", "call", [None, ("row", [1])]),
            ("maker", "call", {}), ("maker", "call", "xy"), ("word", "x"), ("from", 1, 2), ("row", []),
            ("gap", [], []), ("zip",), ("Maker", "zip", [])])

    def test_patterns_of_rows(self):
        self.assert_patterns(MIXED, "args", [
            None, ("row", []), ("row", [None, None, None]), ("gap", [], []), ("gap", [None], []), ("gap", [], [None]),
            ("gap", [("maker", "zip", [])], [("maker", "call", [None, ("row", [])]), None]),
            ("or", [("row", []), ("gap", [], [])])])
        self.assert_no_patterns(MIXED, "args", [
            ("row",), ("row", None), ("row", ()), ("row", {}), ("row", [], []), ["row", []], ("row", [1]),
            ("row", [("row", [])]), ("row", [None, ("word", "x")]), ("row", [[]]), ("gap",), ("gap", []),
            ("gap", [], [], []), ["gap", [], []], ("gap", (), []), ("gap", [], ()), ("gap", None, []),
            ("gap", [], None), ("gap", {}, []), ("gap", [], "x"), ("gap", [("gap", [], [])], []),
            ("gap", [], [("row", [])]), ("gap", [0], []), ("gap", [], [0]), ("word", "x"), ("from", 1, 2),
            ("maker", "zip", []), ("Row", []), ("Gap", [], [])])

    def test_kinds_that_hold_themselves(self):
        self.assert_patterns(NEST, "nest", [("row", [("gap", [("row", [])], [None]), ("or", [("row", [None])])])])
        self.assert_no_patterns(NEST, "nest", [("row", [("gap", [("row", [()])], [None])]), ("row", [("from", 1, 2)])])


class Fits(unittest.TestCase):
    def assert_fitting(self, kinds, kind, pattern, size, expected):
        """Assert which values up to a size a pattern fits."""
        values = [value for own in range(size + 1) for value in values_of_size(kinds, kind, own)]
        found = [value for value in values if fits(kinds, kind, pattern, value) is True]
        self.assertEqual(found, expected)
        unfit = [value for value in values if fits(kinds, kind, pattern, value) is False]
        self.assertEqual(len(found) + len(unfit), len(values))

    def test_none_fits_each_value(self):
        for kinds in (MIXED, GRID, NEST):
            for kind in kinds:
                values = [value for size in range(5) for value in values_of_size(kinds, kind, size)]
                self.assert_fitting(kinds, kind, None, 4, values)

    def test_bounds_of_numbers(self):
        for low, high, expected in ((None, None, [1, 2, 3]), (2, None, [2, 3]), (None, 2, [1, 2]), (2, 2, [2]),
                                    (1, 3, [1, 2, 3]), (3, 2, []), (-10 ** 29, 10 ** 29, [1, 2, 3]), (4, None, []),
                                    (None, 0, []), (0, 1, [1]), (3, 4, [3]), (4, 3, [])):
            self.assert_fitting(GARDEN, "small", ("from", low, high), 1, expected)
        signs = {"a": ("numbers", -1, 1)}
        for low, high, expected in ((0, 0, [0]), (0, None, [0, 1]), (None, 0, [-1, 0]), (1, -1, [])):
            self.assert_fitting(signs, "a", ("from", low, high), 1, expected)
        self.assertIs(fits(LONG, "digit", ("from", 10 ** 19, None), 10 ** 19 - 1), False)
        self.assertIs(fits(LONG, "digit", ("from", 10 ** 19, 10 ** 20), 10 ** 19), True)

    def test_words(self):
        self.assert_fitting(MIXED, "word", ("word", "x"), 1, ["x"])
        self.assert_fitting(MIXED, "word", ("or", [("word", "x"), ("word", "y")]), 1, ["y", "x"])

    def test_or(self):
        self.assert_fitting(GARDEN, "small", ("or", [("from", 3, 3)]), 1, [3])
        self.assert_fitting(GARDEN, "small", ("or", [("from", 3, 3), ("or", [("from", 1, 1), ("from", 1, 0)])]), 1,
                            [1, 3])
        self.assert_fitting(GARDEN, "small", ("or", [("from", 9, 9), ("from", 2, 1)]), 1, [])

    def test_makers(self):
        self.assert_fitting(MIXED, "term", ("maker", "end", []), 3, [("end",)])
        self.assert_fitting(MIXED, "term", ("maker", "call", [("word", "x"), None]), 3, [("call", "x", [])])
        self.assert_fitting(MIXED, "term", ("maker", "add", [("maker", "zip", []), ("from", 0, None)]), 3,
                            [("add", ("zip",), 0), ("add", ("zip",), 1)])
        self.assert_fitting(MIXED, "term", ("maker", "call", [("word", "y"), ("row", [("maker", "end", [])])]), 5,
                            [("call", "y", [("end",)])])

    def test_rows(self):
        self.assert_fitting(GRID, "line", ("row", []), 4, [[]])
        self.assert_fitting(GRID, "line", ("row", [None]), 4, [["one"], ["nil"]])
        self.assert_fitting(GRID, "line", ("row", [None, ("word", "one")]), 4, [["one", "one"], ["nil", "one"]])
        self.assert_fitting(GRID, "grid", ("row", [("row", []), ("gap", [("word", "nil")], [])]), 4, [[[], ["nil"]]])

    def test_gaps(self):
        values = [value for size in range(5) for value in values_of_size(GRID, "line", size)]
        one, nil = ("word", "one"), ("word", "nil")
        self.assert_fitting(GRID, "line", ("gap", [], []), 4, values)
        self.assert_fitting(GRID, "line", ("gap", [one], []), 4, [row for row in values if row[:1] == ["one"]])
        self.assert_fitting(GRID, "line", ("gap", [], [one]), 4, [row for row in values if row[-1:] == ["one"]])
        self.assert_fitting(GRID, "line", ("gap", [], [nil, one]), 4,
                            [row for row in values if row[-2:] == ["nil", "one"]])
        self.assert_fitting(GRID, "line", ("gap", [one, nil], [one]), 4, [["one", "nil", "one"]])
        self.assert_fitting(GRID, "line", ("gap", [one, None], []), 4,
                            [row for row in values if row[:1] == ["one"] and len(row) > 1])

    def test_rows_that_are_shorter_than_both_lists_together(self):
        one = ("word", "one")
        self.assert_fitting(GRID, "line", ("gap", [one], [one]), 3, [["one", "one"]])
        for row, expected in (([], False), (["one"], False), (["one", "one"], False), (["one"] * 3, True),
                              (["one", "one", "nil", "one"], True), (["one", "nil", "one"], False)):
            self.assertIs(fits(GRID, "line", ("gap", [one, one], [one]), row), expected, row)

    def test_patterns_as_deep_as_arguments_may_be(self):
        choice, nested, row = ("row", []), ("row", []), []
        for _ in range(18):
            choice, nested, row = ("or", [choice]), ("row", [nested]), [row]
        self.assertIs(fits(NEST, "nest", choice, []), True)
        self.assertIs(fits(NEST, "nest", choice, [[]]), False)
        self.assertIs(fits(NEST, "nest", nested, row), True)
        self.assertIs(fits(NEST, "nest", nested, [row]), False)


class Clauses(unittest.TestCase):
    CLAUSES = [(("from", 3, None), "big"), (("from", 2, 2), "mid"), (("from", 2, None), "big"), (("from", 9, 9), "no")]

    def test_the_first_clause_that_fits_takes(self):
        assert_same(self, [taker(GARDEN, "small", self.CLAUSES, value) for value in (1, 2, 3)], [None, 1, 0])
        assert_same(self, [label(GARDEN, "small", self.CLAUSES, value) for value in (1, 2, 3)], [None, "mid", "big"])
        rest = self.CLAUSES[2:] + [(None, "rest")]
        assert_same(self, [taker(GARDEN, "small", rest, value) for value in (1, 2, 3)], [2, 0, 0])
        assert_same(self, [label(GARDEN, "small", rest, value) for value in (1, 2, 3)], ["rest", "big", "big"])

    def test_no_clauses_take_nothing(self):
        for value in values_of_size(MIXED, "term", 3):
            self.assertIsNone(taker(MIXED, "term", [], value))
            self.assertIsNone(label(MIXED, "term", [], value))

    def test_names_as_labels(self):
        for name in ("a", "abcdefghij", "or", "none"):
            assert_same(self, label(GARDEN, "small", [(None, name)], 1), name)
        for name in ("", "abcdefghijk", "A", "a1", "a b", None, 1, True, [], ("a",), {}, ["a"]):
            clauses = [(None, "a"), (None, name)]
            assert_raises(self, InvalidClauses, clauses, label, [GARDEN, "small", clauses, 1])

    def test_what_is_no_list_of_clauses(self):
        for clauses in (None, True, 0, "", "a", (), {}, ((None, "a"),), {None: "a"}, [None], [()], [(None,)],
                        [(None, "a", "b")], [[None, "a"]], ["ab"], [("a", None)], [(1, "a")], [(("word", "x"), "a")],
                        [([], "a")], [({}, "a")], [(None, "a"), (("row", []), "b")], [[(None, "a")]], [{}],
                        [(None, "a"), None], [(("or", []), "a")], [(("from", 1, True), "a")], (None, "a")):
            for function in (taker, label):
                assert_raises(self, InvalidClauses, clauses, function, [GARDEN, "small", clauses, 1])


if __name__ == "__main__":
    unittest.main()
