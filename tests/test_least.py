"""Promises 30 to 32: the first values that are missing or taken, and how many there are in all."""

import unittest
from random import Random

from firstclause.errors import InvalidPosition
from firstclause.least import greater_missing, greater_taken, least_missing, least_taken, total_missing, total_taken
from firstclause.least import unreached
from tests.plain import any_clauses, any_kinds, plain_taker, turned, values_up_to
from tests.support import GARDEN, GARDEN_CLAUSES, GRID, LONG, MIXED, NEST, PAIRS, assert_raises, assert_same, plain_size

RANGE = {"a": ("numbers", 0, 10 ** 25), "b": ("makers", [("m", ["a", "a"]), ("n", ["a"])]), "c": ("rows", "b")}


def least(kinds, kind, clauses, at, size=None):
    """The first value that is missing, at None, or taken by a clause, greater than a size if there is one."""
    if size is None:
        return least_missing(kinds, kind, clauses) if at is None else least_taken(kinds, kind, clauses, at)
    if at is None:
        return greater_missing(kinds, kind, clauses, size)
    return greater_taken(kinds, kind, clauses, at, size)


def total(kinds, kind, clauses, at):
    return total_missing(kinds, kind, clauses) if at is None else total_taken(kinds, kind, clauses, at)


class Examples(unittest.TestCase):
    def test_examples_of_the_document(self):
        kinds, clauses = GARDEN, GARDEN_CLAUSES
        assert_same(self, [least_missing(kinds, "tree", clauses), least_taken(kinds, "tree", clauses, 0),
                           least_missing(kinds, "tree", clauses + [(None, "rest")])],
                    [("fork", ("leaf", 1), ("leaf", 1)), ("fork", ("fork", ("leaf", 1), ("leaf", 1)), ("leaf", 1)),
                     None])
        some = [(("gap", [None], []), "some"), (("row", [None, None]), "two"), (("row", []), "none")]
        assert_same(self, [unreached(kinds, "list", some), total_taken(kinds, "tree", clauses, 2),
                           total_missing(kinds, "tree", clauses)], [[1], 3, None])
        assert_same(self, [greater_missing(kinds, "tree", clauses, 5), greater_taken(kinds, "tree", clauses, 2, 2),
                           greater_taken(kinds, "list", [(("row", [None]), "one")], 0, 1)],
                    [("fork", ("leaf", 1), ("fork", ("leaf", 1), ("leaf", 1))), None, [1]])


class PlainSearch(unittest.TestCase):
    """All that is told, compared with a search through all values of small sizes."""

    def assert_found(self, kinds, kind, clauses, size):
        values = values_up_to(kinds, kind, size)
        takers = [plain_taker(clauses, value) for value in values]
        for at in [None] + list(range(len(clauses))):
            mine = [value for value, taker in zip(values, takers) if taker == at]
            self.assert_least(kinds, kind, clauses, at, mine, size)
            self.assert_total(kinds, kind, clauses, at, mine, size)
            assert_same(self, least(turned(kinds), kind, clauses, at), least(kinds, kind, clauses, at))
        reached = [at for at in range(len(clauses)) if least_taken(kinds, kind, clauses, at) is not None]
        assert_same(self, unreached(kinds, kind, clauses), [at for at in range(len(clauses)) if at not in reached])

    def assert_least(self, kinds, kind, clauses, at, mine, size):
        for bound in [None] + list(range(size + 2)):
            greater = [value for value in mine if bound is None or plain_size(value) > bound]
            found = least(kinds, kind, clauses, at, bound)
            if greater:
                assert_same(self, found, greater[0])
            elif found is not None:
                self.assertGreater(plain_size(found), max(size, bound or 0))
                self.assertEqual(plain_taker(clauses, found), at)

    def assert_total(self, kinds, kind, clauses, at, mine, size):
        found = total(kinds, kind, clauses, at)
        beyond = least(kinds, kind, clauses, at, size)
        if beyond is None:
            assert_same(self, found, len(mine))
        elif found is None:
            self.assertIsNotNone(least(kinds, kind, clauses, at, 40))
        else:
            self.assertGreater(found, len(mine))

    def test_kinds_that_hold_one_another(self):
        random = Random(1)
        for kinds, size in ((GARDEN, 6), (MIXED, 5), (NEST, 7), (GRID, 6), (PAIRS, 6)):
            for kind in kinds:
                for depth in (1, 2, 3):
                    clauses = any_clauses(random, kinds, kind, depth)
                    with self.subTest(kinds=kinds, kind=kind, clauses=clauses):
                        self.assert_found(kinds, kind, clauses, size)

    def test_many_kinds_and_clauses(self):
        for seed in range(60):
            random = Random(seed)
            kinds = any_kinds(random)
            kind = random.choice(sorted(kinds))
            clauses = any_clauses(random, kinds, kind, random.randint(1, 3))
            with self.subTest(seed=seed):
                self.assert_found(kinds, kind, clauses, 4)

    def test_gaps_with_patterns_on_both_sides(self):
        one, two, three = (("from", number, number) for number in (1, 2, 3))
        for clauses in ([(("gap", [one], [three]), "a"), (("gap", [two], []), "b"), (("gap", [], [two, one]), "c")],
                        [(("gap", [one, two], [one]), "a"), (("gap", [one], [one]), "b"), (("gap", [], []), "c")],
                        [(("gap", [None], [None, None]), "a"), (("row", [None, two]), "b"), (("row", [one]), "c")],
                        [(("or", [("gap", [one], [two]), ("row", []), ("gap", [], [three])]), "a")]):
            self.assert_found(GARDEN, "list", clauses, 6)

    def test_nested_patterns(self):
        many = ("maker", "call", [("word", "x"), ("gap", [("maker", "end", [])], [("maker", "add", [None, None])])])
        clauses = [(many, "a"), (("maker", "add", [("or", [many, ("maker", "zip", [])]), ("from", 0, None)]), "b"),
                   (("or", [("maker", "call", [None, ("row", [None])]), ("maker", "end", [])]), "c")]
        self.assert_found(MIXED, "term", clauses, 6)
        self.assert_found(NEST, "nest", [(("gap", [("row", [("row", [])])], [("gap", [None], [])]), "a"),
                                         (("row", [("gap", [], [("row", [])])]), "b")], 8)


class Order(unittest.TestCase):
    def test_least_by_size_first_and_then_in_order(self):
        kinds = {"a": ("makers", [("big", ["b", "b"]), ("one", ["b"]), ("two", ["b"])]), "b": ("words", ["y", "x"])}
        assert_same(self, least_missing(kinds, "a", []), ("one", "y"))
        assert_same(self, least_missing(kinds, "a", [(("maker", "one", [("word", "y")]), "a")]), ("one", "x"))
        assert_same(self, least_missing(kinds, "a", [(("maker", "one", [None]), "a")]), ("two", "y"))
        assert_same(self, greater_missing(kinds, "a", [], 2), ("big", "y", "y"))
        assert_same(self, greater_missing(kinds, "a", [(("maker", "big", [None, ("word", "y")]), "a")], 2),
                    ("big", "y", "x"))

    def test_parts_by_their_size_first(self):
        leaf, fork = ("leaf", 1), ("fork", ("leaf", 1), ("leaf", 1))
        assert_same(self, [greater_missing(GARDEN, "tree", [], size) for size in (5, 8)],
                    [("fork", leaf, fork), ("fork", leaf, ("fork", leaf, fork))])
        clauses = [(("maker", "fork", [("maker", "leaf", [None]), None]), "a")]
        assert_same(self, [greater_missing(GARDEN, "tree", clauses, size) for size in (5, 8)],
                    [("fork", fork, leaf), ("fork", fork, fork)])

    def test_rows_by_their_first_unlike_cell(self):
        grid = [(("gap", [("row", [])], []), "a"), (("row", []), "b")]
        assert_same(self, [greater_missing(GRID, "grid", grid, size) for size in (0, 3, 4)],
                    [[["one"]], [["one"], []], [["one"], [], []]])


class Edges(unittest.TestCase):
    def test_no_clauses(self):
        for kinds in (GARDEN, MIXED, NEST, GRID):
            for kind in kinds:
                assert_same(self, least_missing(kinds, kind, []), values_up_to(kinds, kind, 3)[0])
                assert_same(self, unreached(kinds, kind, []), [])
        assert_same(self, [least_missing(RANGE, kind, []) for kind in "abc"], [0, ("n", 0), []])

    def test_clauses_that_take_nothing(self):
        clauses = [(("from", 3, 2), "a"), (("from", 9, None), "b"), (("from", None, 1), "c"), (("from", 1, 1), "d"),
                   (("or", [("from", 2, 1), ("from", 1, 1)]), "e"), (("from", 2, None), "f")]
        assert_same(self, unreached(GARDEN, "small", clauses), [0, 1, 3, 4])
        for at in (0, 1, 3, 4):
            self.assertIsNone(least_taken(GARDEN, "small", clauses, at))
            self.assertIsNone(greater_taken(GARDEN, "small", clauses, at, 0))
            assert_same(self, total_taken(GARDEN, "small", clauses, at), 0)
        assert_same(self, [least_taken(GARDEN, "small", clauses, at) for at in (2, 5)], [1, 2])
        assert_same(self, total_missing(GARDEN, "small", clauses), 0)

    def test_a_last_clause_that_takes_all(self):
        for kinds in (GARDEN, MIXED, NEST, GRID, LONG):
            for kind in kinds:
                for pattern in (None, ("or", [None])):
                    clauses = [(pattern, "a"), (None, "b")]
                    self.assertIsNone(least_missing(kinds, kind, clauses))
                    self.assertIsNone(greater_missing(kinds, kind, clauses, 0))
                    assert_same(self, total_missing(kinds, kind, clauses), 0)
                    assert_same(self, unreached(kinds, kind, clauses), [1])

    def test_great_ranges_with_one_number_left_out(self):
        hole = [(("from", None, 10 ** 21), "a"), (("from", 10 ** 21 + 2, None), "b")]
        assert_same(self, least_missing(RANGE, "a", hole), 10 ** 21 + 1)
        assert_same(self, [least_taken(RANGE, "a", hole, at) for at in (0, 1)], [0, 10 ** 21 + 2])
        assert_same(self, [total(RANGE, "a", hole, at) for at in (None, 0, 1)],
                    [1, 10 ** 21 + 1, 10 ** 25 - 10 ** 21 - 1])
        self.assertIsNone(greater_missing(RANGE, "a", hole, 1))
        inner = [(("maker", "n", [pattern]), name) for pattern, name in hole]
        inner += [(("maker", "m", [pattern, None]), name) for pattern, name in hole]
        assert_same(self, least_missing(RANGE, "b", inner), ("n", 10 ** 21 + 1))
        assert_same(self, greater_missing(RANGE, "b", inner, 2), ("m", 10 ** 21 + 1, 0))
        assert_same(self, total_missing(RANGE, "b", inner), 1 + 10 ** 25 + 1)
        assert_same(self, total_taken(RANGE, "b", inner, 2), (10 ** 21 + 1) * (10 ** 25 + 1))
        cells = [(("gap", [pattern], []), name) for pattern, name in inner] + [(("row", []), "none")]
        assert_same(self, least_missing(RANGE, "c", cells), [("n", 10 ** 21 + 1)])
        assert_same(self, greater_missing(RANGE, "c", cells, 3), [("m", 10 ** 21 + 1, 0)])

    def test_totals_where_values_are_finitely_many(self):
        finite = {"top": ("makers", [("two", ["mid", "mid"]), ("end", [])]),
                  "mid": ("makers", [("w", ["word", "num"])]), "word": ("words", ["a", "b"]), "num": ("numbers", 1, 5)}
        one = ("maker", "two", [("maker", "w", [("word", "a"), ("from", 2, None)]), None])
        clauses = [(one, "a"), (("maker", "two", [None, ("maker", "w", [None, ("from", 5, 5)])]), "b")]
        assert_same(self, [total(finite, "top", clauses, at) for at in (None, 0, 1)], [1 + 6 * 8, 4 * 10, 6 * 2])
        assert_same(self, [total(finite, "mid", [], None), total(finite, "word", [(("word", "b"), "x")], 0)], [10, 1])
        self.assertIsNone(greater_missing(finite, "top", clauses, 7))
        assert_same(self, greater_missing(finite, "top", clauses, 6),
                    ("two", ("w", "a", 1), ("w", "a", 1)))

    def test_totals_where_kinds_go_on_endlessly(self):
        clauses = [(("row", [None, None]), "two"), (("gap", [("from", 1, 1)], []), "one"), (("row", []), "none"),
                   (("gap", [], [("from", 3, 3)]), "end")]
        assert_same(self, [total(GARDEN, "list", clauses, at) for at in (None, 0, 1, 2, 3)], [None, 9, None, 1, None])
        assert_same(self, total_missing(GARDEN, "list", clauses + [(("gap", [None], []), "rest")]), 0)
        leaf = ("maker", "leaf", [None])
        fork = ("maker", "fork", [leaf, leaf])
        trees = [(leaf, "leaf"), (("maker", "fork", [leaf, leaf]), "fork"),
                 (("maker", "fork", [fork, ("or", [leaf, fork])]), "more"), (("maker", "fork", [None, fork]), "rest")]
        assert_same(self, [total(GARDEN, "tree", trees, at) for at in (None, 0, 1, 2, 3)],
                    [None, 3, 9, 9 * 12, None])
        assert_same(self, [total(NEST, "nest", [(("row", []), "a"), (("row", [("row", [])]), "b")], at)
                           for at in (None, 0, 1)], [None, 1, 1])

    def test_sizes(self):
        clauses = [(("row", [None]), "one"), (("row", [None, None, None]), "three"), (("gap", [None] * 3, []), "rest")]
        assert_same(self, [greater_taken(GARDEN, "list", clauses, 0, size) for size in (0, 1, 2, 12)],
                    [[1], [1], None, None])
        assert_same(self, [greater_taken(GARDEN, "list", clauses, 1, size) for size in (0, 3, 4, 5)],
                    [[1, 1, 1], [1, 1, 1], None, None])
        assert_same(self, [greater_taken(GARDEN, "list", clauses, 2, size) for size in (0, 4, 5, 12, 30)],
                    [[1] * many for many in (4, 4, 5, 12, 30)])
        assert_same(self, [greater_missing(GARDEN, "list", clauses, size) for size in (0, 1, 2, 3, 10 ** 20)],
                    [[], [1, 1], [1, 1], None, None])
        assert_same(self, greater_missing(GARDEN, "small", [], 0), 1)
        self.assertIsNone(greater_missing(GARDEN, "small", [], 1))

    def test_sizes_that_no_value_has(self):
        kinds = {"a": ("makers", [("m", ["b", "b"]), ("z", [])]), "b": ("makers", [("n", ["c", "c"])]),
                 "c": ("makers", [("o", ["a", "a"])])}
        first = least_missing(kinds, "b", [])
        assert_same(self, first, ("n", ("o", ("z",), ("z",)), ("o", ("z",), ("z",))))
        second = greater_missing(kinds, "a", [], 1)
        assert_same(self, second, ("m", first, first))
        self.assertEqual(plain_size(greater_missing(kinds, "a", [], 15)), 29)

    def test_positions(self):
        clauses = [(("from", 1, 1), "a"), (("from", 2, 2), "b")]
        assert_same(self, [least_taken(GARDEN, "small", clauses, at) for at in (0, 1)], [1, 2])
        for at in (2, 3, -1, 10 ** 20, True, False, None, "0", "", [], [0], (), (0,), {}, {0: 1}, [[{}]]):
            assert_raises(self, InvalidPosition, at, least_taken, [GARDEN, "small", clauses, at])
            assert_raises(self, InvalidPosition, at, total_taken, [GARDEN, "small", clauses, at])
            assert_raises(self, InvalidPosition, at, greater_taken, [GARDEN, "small", clauses, at, 0])
        for at in (0, -1, True, None):
            assert_raises(self, InvalidPosition, at, least_taken, [GARDEN, "small", [], at])

    def test_kinds_that_the_clauses_do_not_hold(self):
        kinds = {**GARDEN, "word": ("words", ["a"]), "nest": ("rows", "nest")}
        clauses = [(("maker", "leaf", [None]), "leaf")]
        assert_same(self, least_missing(kinds, "tree", clauses), least_missing(GARDEN, "tree", clauses))

    def test_patterns_as_deep_as_arguments_may_be(self):
        chain = {"s": ("makers", [("s", ["s"]), ("z", [])])}
        pattern, value = ("maker", "z", []), ("z",)
        for _ in range(18):
            pattern, value = ("maker", "s", [pattern]), ("s", value)
        assert_same(self, least_taken(chain, "s", [(pattern, "a")], 0), value)
        assert_same(self, total_taken(chain, "s", [(pattern, "a")], 0), 1)
        assert_same(self, greater_missing(chain, "s", [(pattern, "a")], 18), ("s", value))
        assert_same(self, greater_missing(chain, "s", [(pattern, "a"), (("maker", "s", [pattern]), "b")], 18),
                    ("s", ("s", value)))


if __name__ == "__main__":
    unittest.main()
