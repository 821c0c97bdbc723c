"""Promises 40 and 41: how many values of each size are missing or taken, and which."""

import unittest
from copy import deepcopy
from random import Random

from firstclause.clauses import label, taker
from firstclause.counts import count_missing, count_taken, count_unlike, nth_missing, nth_taken
from firstclause.errors import InvalidPosition
from firstclause.least import greater_missing, greater_taken, total_missing, total_taken
from firstclause.values import count_values, nth_value, place, size_of
from tests.plain import any_clauses, any_kinds, plain_label, plain_taker, turned
from tests.support import GARDEN, GARDEN_CLAUSES, GRID, LONG, MIXED, NEST, NO_COUNTS, PAIRS, assert_raises, assert_same
from tests.support import spoil, values_of_size

ONE, TWO, THREE = (("from", number, number) for number in (1, 2, 3))


def count(kinds, kind, clauses, at, size):
    """How many values of a size are missing, at None, or taken by a clause."""
    if at is None:
        return count_missing(kinds, kind, clauses, size)
    return count_taken(kinds, kind, clauses, at, size)


def nth(kinds, kind, clauses, at, size, number):
    if at is None:
        return nth_missing(kinds, kind, clauses, size, number)
    return nth_taken(kinds, kind, clauses, at, size, number)


def total(kinds, kind, clauses, at):
    return total_missing(kinds, kind, clauses) if at is None else total_taken(kinds, kind, clauses, at)


def greater(kinds, kind, clauses, at, size):
    if at is None:
        return greater_missing(kinds, kind, clauses, size)
    return greater_taken(kinds, kind, clauses, at, size)


def all_ats(clauses):
    return [None] + list(range(len(clauses)))


class Examples(unittest.TestCase):
    def test_examples_of_the_document(self):
        kinds, clauses = GARDEN, GARDEN_CLAUSES
        assert_same(self, [[count_missing(kinds, "tree", clauses, size) for size in (2, 5, 8)],
                           [count_taken(kinds, "tree", clauses, 0, size) for size in (5, 8, 11)],
                           nth_missing(kinds, "tree", clauses, 5, 1)],
                    [[0, 3, 27], [0, 27, 243], ("fork", ("leaf", 2), ("leaf", 1))])
        long = {"row": ("rows", "digit"), "digit": ("numbers", 0, 10 ** 20 - 1)}
        ends = [(("gap", [("from", 7, 7)], [("from", 7, 7)]), "both"), (("gap", [("from", 7, 7)], []), "first")]
        assert_same(self, [count_taken(long, "row", ends, 0, 4), count_taken(long, "row", ends, 1, 3),
                           nth_taken(long, "row", ends, 0, 4, 12345), count_unlike(long, "row", ends, ends[1:], 2)],
                    [100000000000000000000, 99999999999999999999, [7, 12345, 7], 0])


class PlainSearch(unittest.TestCase):
    """All counts and values by number, compared with a search through all values of small sizes."""

    def assert_size(self, kinds, kind, clauses, size):
        values = values_of_size(kinds, kind, size)
        takers = [plain_taker(clauses, value) for value in values]
        for at in all_ats(clauses):
            mine = [value for value, own in zip(values, takers) if own == at]
            assert_same(self, count(kinds, kind, clauses, at, size), len(mine))
            # To ask for each of very many values takes long.
            step = 1 + len(mine) // 40
            for number in list(range(0, len(mine), step)) + list(range(max(0, len(mine) - 1), len(mine))):
                assert_same(self, nth(kinds, kind, clauses, at, size, number), mine[number])
            for number in (len(mine), len(mine) + 1, 10 ** 699):
                self.assertIsNone(nth(kinds, kind, clauses, at, size, number))
            assert_same(self, count(turned(kinds), kind, clauses, at, size), len(mine))
        assert_same(self, sum(count(kinds, kind, clauses, at, size) for at in all_ats(clauses)),
                    count_values(kinds, kind, size))

    def assert_unlike(self, kinds, kind, one, other, size):
        values = values_of_size(kinds, kind, size)
        expected = sum(plain_label(one, value) != plain_label(other, value) for value in values)
        assert_same(self, count_unlike(kinds, kind, one, other, size), expected)
        assert_same(self, count_unlike(kinds, kind, other, one, size), expected)

    def assert_counted(self, kinds, kind, clauses, other, greatest):
        for size in range(greatest + 1):
            self.assert_size(kinds, kind, clauses, size)
            self.assert_unlike(kinds, kind, clauses, other, size)

    def test_kinds_that_hold_one_another(self):
        random = Random(4)
        for kinds, size in ((GARDEN, 6), (MIXED, 5), (NEST, 7), (GRID, 5), (PAIRS, 5)):
            for kind in kinds:
                for depth in (1, 2, 3):
                    clauses = any_clauses(random, kinds, kind, depth)
                    other = any_clauses(random, kinds, kind, depth)
                    with self.subTest(kinds=kinds, kind=kind, clauses=clauses, other=other):
                        self.assert_counted(kinds, kind, clauses, other, size)

    def test_many_kinds_and_clauses(self):
        for seed in range(60):
            random = Random(seed)
            kinds = any_kinds(random)
            kind = random.choice(sorted(kinds))
            clauses = any_clauses(random, kinds, kind, random.randint(1, 3))
            other = random.choice((clauses[1:], clauses[::-1], clauses + [(None, "z")]))
            with self.subTest(seed=seed):
                self.assert_counted(kinds, kind, clauses, other, 4)

    def test_gaps_with_patterns_on_both_sides(self):
        for clauses in ([(("gap", [ONE], [THREE]), "a"), (("gap", [TWO], []), "b"), (("gap", [], [TWO, ONE]), "c")],
                        [(("gap", [ONE, TWO], [ONE]), "a"), (("gap", [ONE], [ONE]), "b"), (("gap", [], []), "c")],
                        [(("gap", [None], [None, None]), "a"), (("row", [None, TWO]), "b"), (("row", [ONE]), "c")],
                        [(("or", [("gap", [ONE], [TWO]), ("row", []), ("gap", [], [THREE])]), "a")]):
            self.assert_counted(GARDEN, "list", clauses, clauses[::-1], 6)

    def test_nested_patterns(self):
        many = ("maker", "call", [("word", "x"), ("gap", [("maker", "end", [])], [("maker", "add", [None, None])])])
        clauses = [(many, "a"), (("maker", "add", [("or", [many, ("maker", "zip", [])]), ("from", 0, None)]), "b"),
                   (("or", [("maker", "call", [None, ("row", [None])]), ("maker", "end", [])]), "c")]
        self.assert_counted(MIXED, "term", clauses, clauses[1:], 6)
        self.assert_counted(NEST, "nest", [(("gap", [("row", [("row", [])])], [("gap", [None], [])]), "a"),
                                           (("row", [("gap", [], [("row", [])])]), "b")], [(None, "b")], 8)


class Order(unittest.TestCase):
    """Values of states that part the values of one size are told in the order of all values."""

    def assert_order(self, kinds, kind, clauses, size):
        for at in all_ats(clauses):
            many = count(kinds, kind, clauses, at, size)
            numbers = sorted({number for number in (0, 1, many // 3, many // 2, many - 2, many - 1)
                              if 0 <= number < many})
            values = [nth(kinds, kind, clauses, at, size, number) for number in numbers]
            for value in values:
                self.assertEqual(size_of(kinds, kind, value), size)
                assert_same(self, taker(kinds, kind, clauses, value), at)
            places = [place(kinds, kind, value) for value in values]
            self.assertEqual(places, sorted(set(places)))
            self.assertIsNone(nth(kinds, kind, clauses, at, size, many))

    def test_sizes_up_to_12(self):
        random = Random(5)
        for kinds, kind in ((GARDEN, "tree"), (GARDEN, "list"), (MIXED, "term"), (MIXED, "args"), (NEST, "nest"),
                            (GRID, "grid"), (PAIRS, "pair"), (LONG, "row")):
            for depth in (1, 2, 3):
                clauses = any_clauses(random, kinds, kind, depth) + [(None, "z")]
                for size in (9, 12):
                    with self.subTest(kind=kind, clauses=clauses, size=size):
                        self.assert_order(kinds, kind, clauses, size)
                        self.assert_order(kinds, kind, clauses[:-1], size)

    def test_numbers_on_both_sides_of_one_that_is_taken(self):
        kinds = {"n": ("numbers", -5, 5), "p": ("makers", [("p", ["n", "n"])])}
        outer = [(("from", -1, 1), "a"), (("or", [("from", None, -4), ("from", 4, None)]), "b")]
        assert_same(self, [nth_missing(kinds, "n", outer, 1, number) for number in range(5)], [-3, -2, 2, 3, None])
        assert_same(self, [nth_taken(kinds, "n", outer, 1, 1, number) for number in range(5)], [-5, -4, 4, 5, None])
        pairs = [(("maker", "p", [pattern, pattern]), name) for pattern, name in outer]
        assert_same(self, [nth_taken(kinds, "p", pairs, 1, 3, number) for number in (0, 1, 2, 3, 4, 15, 16)],
                    [("p", -5, -5), ("p", -5, -4), ("p", -5, 4), ("p", -5, 5), ("p", -4, -5), ("p", 5, 5), None])

    def test_cells_by_their_size_and_not_by_the_length_of_the_row(self):
        clauses = [(("row", [None]), "one")]
        found = [nth_missing(GRID, "grid", clauses, 4, number) for number in range(6)]
        assert_same(self, found, [[[], [], []], [[], ["one"]], [[], ["nil"]], [["one"], []], [["nil"], []], None])


class Sections(unittest.TestCase):
    """Total numbers and greater values, compared with the counts of the sizes."""

    def assert_sums(self, kinds, kind, clauses):
        for at in all_ats(clauses):
            counts = [count(kinds, kind, clauses, at, size) for size in range(31)]
            found = total(kinds, kind, clauses, at)
            beyond = greater(kinds, kind, clauses, at, 30)
            if beyond is None:
                assert_same(self, found, sum(counts))
            elif found is not None:
                self.assertGreater(found, sum(counts))
            for size in range(12):
                sizes = [own for own in range(size + 1, 31) if counts[own]]
                expected = nth(kinds, kind, clauses, at, sizes[0], 0) if sizes else beyond
                assert_same(self, greater(kinds, kind, clauses, at, size), expected)

    def test_totals_and_greater_values(self):
        random = Random(6)
        for kinds, kind in ((GARDEN, "tree"), (GARDEN, "list"), (GARDEN, "small"), (MIXED, "term"), (MIXED, "word"),
                            (NEST, "nest"), (GRID, "grid"), (PAIRS, "pair"), (LONG, "row"), (LONG, "digit")):
            for depth in (1, 2):
                clauses = any_clauses(random, kinds, kind, depth)
                with self.subTest(kind=kind, clauses=clauses):
                    self.assert_sums(kinds, kind, clauses)

    def test_finitely_many_values(self):
        finite = {"top": ("makers", [("two", ["mid", "mid"]), ("end", [])]),
                  "mid": ("makers", [("w", ["word", "num"])]), "word": ("words", ["a", "b"]), "num": ("numbers", 1, 5)}
        one = ("maker", "two", [("maker", "w", [("word", "a"), ("from", 2, None)]), None])
        clauses = [(one, "a"), (("maker", "two", [None, ("maker", "w", [None, ("from", 5, 5)])]), "b")]
        self.assert_sums(finite, "top", clauses)
        assert_same(self, [[count(finite, "top", clauses, at, size) for size in (0, 1, 2, 6, 7, 8, 12)]
                           for at in (None, 0, 1)],
                    [[0, 1, 0, 0, 48, 0, 0], [0, 0, 0, 0, 40, 0, 0], [0, 0, 0, 0, 12, 0, 0]])


class Edges(unittest.TestCase):
    def test_no_clauses(self):
        for kinds in (GARDEN, MIXED, NEST, GRID, LONG):
            for kind in kinds:
                for size in (0, 1, 2, 5, 12):
                    many = count_values(kinds, kind, size)
                    assert_same(self, count_missing(kinds, kind, [], size), many)
                    assert_same(self, count_unlike(kinds, kind, [], [], size), 0)
                    assert_same(self, count_unlike(kinds, kind, [], [(None, "a")], size), many)
                    for number in (0, many // 2, max(many - 1, 0), many):
                        assert_same(self, nth_missing(kinds, kind, [], size, number),
                                    nth_value(kinds, kind, size, number))

    def test_size_0(self):
        for kinds in (GARDEN, MIXED, NEST, GRID, LONG):
            for kind in kinds:
                for at in (None, 0):
                    assert_same(self, count(kinds, kind, [(None, "a")], at, 0), 0)
                    self.assertIsNone(nth(kinds, kind, [(None, "a")], at, 0, 0))
                assert_same(self, count_missing(kinds, kind, [], 0), 0)
                self.assertIsNone(nth_missing(kinds, kind, [], 0, 0))

    def test_sizes_beyond_the_greatest_value(self):
        clauses = [(("row", [None]), "one"), (("gap", [None] * 3, []), "rest")]
        assert_same(self, [count_taken(GARDEN, "list", clauses, 0, size) for size in (1, 2, 3, 12)], [0, 3, 0, 0])
        assert_same(self, [count_missing(GARDEN, "list", clauses, size) for size in (1, 2, 3, 4, 12)], [1, 0, 9, 0, 0])
        assert_same(self, [count_taken(GARDEN, "list", clauses, 1, size) for size in (3, 4, 12)], [0, 27, 3 ** 11])
        assert_same(self, [count_missing(GARDEN, "small", [(ONE, "a")], size) for size in (1, 2, 12)], [2, 0, 0])
        for size in (2, 12):
            self.assertIsNone(nth_missing(GARDEN, "small", [(ONE, "a")], size, 0))
            self.assertIsNone(nth_taken(GARDEN, "small", [(ONE, "a")], 0, size, 0))

    def test_the_last_number_and_the_one_behind(self):
        clauses = [(("gap", [TWO], []), "a"), (("gap", [], [ONE]), "b")]
        assert_same(self, [nth_taken(GARDEN, "list", clauses, 0, 3, number) for number in (0, 1, 2, 3, 4)],
                    [[2, 1], [2, 2], [2, 3], None, None])
        assert_same(self, [nth_taken(GARDEN, "list", clauses, 1, 3, number) for number in (0, 1, 2)],
                    [[1, 1], [3, 1], None])
        assert_same(self, [nth_missing(GARDEN, "list", clauses, 3, number) for number in (0, 3, 4)],
                    [[1, 2], [3, 3], None])

    def test_great_ranges_with_one_number_left_out(self):
        kinds = {"n": ("numbers", 0, 10 ** 25), "row": ("rows", "n"), "p": ("makers", [("p", ["n", "n"])])}
        hole = [(("from", None, 10 ** 21), "a"), (("from", 10 ** 21 + 2, None), "b")]
        assert_same(self, [count(kinds, "n", hole, at, 1) for at in (None, 0, 1)],
                    [1, 10 ** 21 + 1, 10 ** 25 - 10 ** 21 - 1])
        assert_same(self, [nth_missing(kinds, "n", hole, 1, number) for number in (0, 1)], [10 ** 21 + 1, None])
        assert_same(self, [nth_taken(kinds, "n", hole, 1, 1, number) for number in (0, 5)],
                    [10 ** 21 + 2, 10 ** 21 + 7])
        either = [(("or", [pattern for pattern, _ in hole]), "a")]
        assert_same(self, count_unlike(kinds, "n", either, [(None, "a")], 1), 1)
        assert_same(self, [nth_taken(kinds, "n", either, 0, 1, number) for number in (10 ** 21, 10 ** 21 + 1)],
                    [10 ** 21, 10 ** 21 + 2])
        pairs = [(("maker", "p", [either[0][0], None]), "a"), (("maker", "p", [None, either[0][0]]), "a")]
        assert_same(self, [count(kinds, "p", pairs, at, 3) for at in (None, 0, 1)],
                    [1, 10 ** 25 * (10 ** 25 + 1), 10 ** 25])
        assert_same(self, nth_taken(kinds, "p", pairs, 1, 3, 10 ** 25 - 1), ("p", 10 ** 21 + 1, 10 ** 25))
        rows = [(("gap", [either[0][0]], []), "a"), (("gap", [], [either[0][0]]), "b")]
        assert_same(self, [count_missing(kinds, "row", rows, size) for size in (1, 2, 3, 4)],
                    [1, 1, 1, 10 ** 25 + 1])
        assert_same(self, nth_missing(kinds, "row", rows, 4, 10 ** 25), [10 ** 21 + 1, 10 ** 25, 10 ** 21 + 1])

    def test_numbers_of_values_of_hundreds_of_digits(self):
        kinds = {"row": ("rows", "n"), "n": ("numbers", 1 - 10 ** 30, 10 ** 30 - 1)}
        span = 2 * 10 ** 30 - 1
        zero = ("from", 0, 0)
        clauses = [(("gap", [zero], []), "a"), (("gap", [], [zero]), "b")]
        many = [span ** 10, (span - 1) * span ** 9, (span - 1) ** 2 * span ** 9]
        assert_same(self, [count(kinds, "row", clauses, at, 12) for at in (0, 1, None)], many)
        for at, last in ((0, [0] + [10 ** 30 - 1] * 10), (1, [10 ** 30 - 1] * 10 + [0]), (None, [10 ** 30 - 1] * 11)):
            number = many[0 if at == 0 else 1 if at == 1 else 2]
            assert_same(self, nth(kinds, "row", clauses, at, 12, number - 1), last)
            self.assertIsNone(nth(kinds, "row", clauses, at, 12, number))
        assert_same(self, nth_taken(kinds, "row", clauses, 0, 12, span ** 10 // 2), [0] * 11)
        assert_same(self, count_unlike(kinds, "row", clauses, clauses[:1], 12), many[1])

    def test_clauses_that_stand_twice_or_take_nothing(self):
        clauses = [(ONE, "a"), (ONE, "b"), (("from", 3, 2), "c"), (("or", [ONE, TWO]), "a")]
        assert_same(self, [count(GARDEN, "small", clauses, at, 1) for at in all_ats(clauses)], [1, 1, 0, 0, 1])
        assert_same(self, [nth(GARDEN, "small", clauses, at, 1, 0) for at in all_ats(clauses)], [3, 1, None, None, 2])

    def test_unlike_labels(self):
        for one, other, expected in (
                ([(None, "a")], [(None, "a")], 0), ([(None, "a")], [(None, "b")], 3), ([], [(ONE, "a")], 1),
                ([(ONE, "a"), (None, "b")], [(None, "b"), (ONE, "a")], 1),
                ([(ONE, "a"), (TWO, "a")], [(("from", 1, 2), "a")], 0),
                ([(ONE, "a"), (ONE, "b")], [(ONE, "a")], 0), ([(TWO, "a")], [(THREE, "a")], 2),
                ([(ONE, "a"), (TWO, "b")], [(ONE, "b"), (TWO, "a")], 2), ([], [], 0)):
            assert_same(self, count_unlike(GARDEN, "small", one, other, 1), expected)
            assert_same(self, count_unlike(GARDEN, "small", other, one, 1), expected)

    def test_positions(self):
        clauses = [(ONE, "a"), (TWO, "b")]
        assert_same(self, [nth_taken(GARDEN, "small", clauses, at, 1, 0) for at in (0, 1)], [1, 2])
        for at in NO_COUNTS + [2, 3, 10 ** 20]:
            assert_raises(self, InvalidPosition, at, count_taken, [GARDEN, "small", clauses, at, 1])
            assert_raises(self, InvalidPosition, at, nth_taken, [GARDEN, "small", clauses, at, 1, 0])
        for at in (0, -1, True, None):
            assert_raises(self, InvalidPosition, at, count_taken, [GARDEN, "small", [], at, 1])
            assert_raises(self, InvalidPosition, at, nth_taken, [GARDEN, "small", [], at, 1, 0])

    def test_new_lists_each_time(self):
        clauses = [(("row", []), "a"), (("gap", [("row", [])], []), "b")]
        for at in (None, 1):
            for size in (4, 5, 6):
                first = nth(GRID, "grid", clauses, at, size, 2)
                kept = deepcopy(first)
                spoil(first)
                assert_same(self, nth(GRID, "grid", clauses, at, size, 2), kept)

    def test_values_that_are_told_may_be_passed(self):
        clauses = [(("gap", [None], [("from", 3, None)]), "a"), (("row", [None]), "b")]
        for size in (3, 12):
            value = nth_taken(LONG, "row", clauses, 0, size, 10 ** 18)
            assert_same(self, label(LONG, "row", clauses, value), "a")


if __name__ == "__main__":
    unittest.main()
