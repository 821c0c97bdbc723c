"""Promises 50 and 51: when two lists of clauses do the same, and which clauses can be exchanged or left out."""

import unittest
from copy import deepcopy
from itertools import combinations
from random import Random

from firstclause.clauses import label
from firstclause.compare import lean, parting, spare, swaps
from firstclause.counts import count_unlike
from firstclause.sheets import check_sheet, sheet
from tests.plain import any_clauses, any_kinds, plain_label, turned, values_up_to
from tests.support import GARDEN, GARDEN_CLAUSES, GRID, LONG, MIXED, NEST, PAIRS, assert_same, plain_size, spoil

LEAF, FORK = ("maker", "leaf", [None]), ("maker", "fork", [None, None])
ONE, TWO, THREE = (("from", number, number) for number in (1, 2, 3))
LOW, HIGH = ("from", None, 1), ("from", 2, None)
EMPTY, SOME = ("row", []), ("gap", [None], [])


def some_kinds_and_clauses(random, size):
    """Kinds, a kind of them and clauses of it, more often of few labels and with patterns that stand twice."""
    kinds = any_kinds(random)
    kind = random.choice(sorted(kinds))
    clauses = any_clauses(random, kinds, kind, size, random.choice(("a", "ab", "abc")))
    if clauses and random.random() < 0.5:
        clauses.insert(random.randint(0, len(clauses)), (random.choice(clauses)[0], random.choice("ab")))
    if random.random() < 0.3:
        clauses.append((None, random.choice("ab")))
    return kinds, kind, clauses


class Examples(unittest.TestCase):
    def test_examples_of_the_document(self):
        kinds, clauses = GARDEN, GARDEN_CLAUSES
        assert_same(self, [parting(kinds, "tree", clauses, clauses[1:]),
                           parting(kinds, "tree", clauses, [clauses[2], clauses[0], clauses[1]]),
                           swaps(kinds, "tree", clauses)],
                    [("fork", ("fork", ("leaf", 1), ("leaf", 1)), ("leaf", 1)), None, [1]])
        rows = [(("row", []), "short"), (("row", [None]), "short"), (("gap", [None, None], []), "long"),
                (None, "short")]
        assert_same(self, [spare(kinds, "list", rows), lean(kinds, "list", rows), lean(kinds, "list", [])],
                    [[0, 1, 3], [2, 3], []])


class Parting(unittest.TestCase):
    def assert_parted(self, kinds, kind, one, other, size):
        """Compare what is told with a search through all values of small sizes, and with sheets and counts."""
        found = parting(kinds, kind, one, other)
        values = values_up_to(kinds, kind, size)
        unlike = [value for value in values if plain_label(one, value) != plain_label(other, value)]
        if unlike:
            assert_same(self, found, unlike[0])
        elif found is not None:
            self.assertGreater(plain_size(found), size)
            self.assertNotEqual(plain_label(one, found), plain_label(other, found))
        assert_same(self, parting(kinds, kind, other, one), found)
        assert_same(self, parting(turned(kinds), kind, one, other), found)
        self.assertEqual(sheet(kinds, kind, one, other) is None, found is not None)
        first = 13 if found is None else plain_size(found)
        for own in range(min(first, 13)):
            assert_same(self, count_unlike(kinds, kind, one, other, own), 0)
        if found is not None:
            self.assertGreater(count_unlike(kinds, kind, one, other, first), 0)
        return found

    def test_kinds_that_hold_one_another(self):
        random = Random(7)
        for kinds, size in ((GARDEN, 6), (MIXED, 5), (NEST, 6), (GRID, 5), (PAIRS, 5)):
            for kind in kinds:
                for depth in (1, 2, 3):
                    one = any_clauses(random, kinds, kind, depth)
                    other = random.choice((one[::-1], one[1:], any_clauses(random, kinds, kind, depth)))
                    with self.subTest(kind=kind, one=one, other=other):
                        self.assert_parted(kinds, kind, one, other, size)
                        self.assertIsNone(self.assert_parted(kinds, kind, one, deepcopy(one), 3))

    def test_many_kinds_and_clauses(self):
        same = 0
        for seed in range(100):
            random = Random(seed)
            kinds, kind, one = some_kinds_and_clauses(random, random.randint(1, 3))
            other = list(one)
            if other:
                at = random.randrange(len(other))
                other.insert(random.randrange(len(other)), other.pop(at))
            with self.subTest(seed=seed):
                same += self.assert_parted(kinds, kind, one, other, 4) is None
                self.assert_parted(kinds, kind, one, one[:-1], 4)
        self.assertGreater(same, 20)
        self.assertLess(same, 90)

    def test_the_least_value(self):
        assert_same(self, parting(GARDEN, "list", [(SOME, "a")], [(("gap", [TWO], []), "a")]), [1])
        assert_same(self, parting(GARDEN, "list", [(("gap", [ONE], [THREE]), "a")],
                                  [(("row", [ONE, THREE]), "a")]), [1, 1, 3])
        assert_same(self, parting(GARDEN, "tree", [(("maker", "fork", [LEAF, None]), "a")],
                                  [(("maker", "fork", [None, LEAF]), "a")]),
                    ("fork", ("leaf", 1), ("fork", ("leaf", 1), ("leaf", 1))))
        assert_same(self, parting(GRID, "grid", [(("gap", [("row", [])], []), "a")], [(SOME, "a")]), [["one"]])

    def test_missing_in_just_one(self):
        for one, other, expected in (([], [(None, "a")], 1), ([(ONE, "a")], [(None, "a")], 2),
                                     ([(ONE, "a"), (TWO, "b")], [(ONE, "a"), (HIGH, "b")], 3), ([], [(THREE, "a")], 3)):
            assert_same(self, parting(GARDEN, "small", one, other), expected)
            assert_same(self, parting(GARDEN, "small", other, one), expected)

    def test_labels_alone_matter(self):
        for one, other, expected in (
                ([(ONE, "a"), (None, "a")], [(None, "a")], None), ([(ONE, "a"), (None, "b")], [(None, "a")], 2),
                ([(ONE, "a"), (ONE, "b")], [(ONE, "a")], None), ([(ONE, "b"), (ONE, "a")], [(ONE, "a")], 1),
                ([(None, "a")], [(None, "b")], 1), ([(LOW, "a"), (None, "b")], [(HIGH, "b"), (None, "a")], None),
                ([(("from", 3, 2), "a")], [], None), ([], [], None),
                ([(("or", [ONE, TWO, THREE]), "a")], [(None, "a")], None)):
            assert_same(self, parting(GARDEN, "small", one, other), expected)
            assert_same(self, parting(GARDEN, "small", other, one), expected)

    def test_great_ranges(self):
        for bound, expected in ((10 ** 19, 10 ** 19), (10 ** 19 + 1, None), (10 ** 19 + 2, 10 ** 19 + 1)):
            one = [(("from", None, 10 ** 19), "a"), (None, "b")]
            other = [(("from", bound, None), "b"), (None, "a")]
            assert_same(self, parting(LONG, "digit", one, other), expected)
            first, second = ([(("gap", [pattern], []), name) for pattern, name in each] for each in (one, other))
            assert_same(self, parting(LONG, "row", first, second), None if expected is None else [expected])

    def test_what_parts_can_be_passed(self):
        one, other = [(("gap", [None], [TWO]), "a"), (None, "b")], [(("gap", [], [TWO]), "a"), (None, "b")]
        found = parting(GARDEN, "list", one, other)
        assert_same(self, [label(GARDEN, "list", each, found) for each in (one, other)], ["b", "a"])
        spoil(found)
        assert_same(self, parting(GARDEN, "list", one, other), [2])

    def test_sheets_show_what_parts_nothing(self):
        one = [(("gap", [LOW], []), "a"), (("gap", [HIGH], []), "b")]
        other = [(("gap", [HIGH], []), "b"), (SOME, "a")]
        self.assertIsNone(parting(GARDEN, "list", one, other))
        self.assertIs(check_sheet(GARDEN, "list", one, other, sheet(GARDEN, "list", one, other)), True)


class LeftOut(unittest.TestCase):
    """swaps, spare and lean, compared with what parting says of the lists."""

    def assert_found(self, kinds, kind, clauses):
        kept = repr(clauses)

        def same(other):
            return parting(kinds, kind, clauses, other) is None

        exchanged = [clauses[:at] + [clauses[at + 1], clauses[at]] + clauses[at + 2:]
                     for at in range(len(clauses) - 1)]
        assert_same(self, swaps(kinds, kind, clauses), [at for at, other in enumerate(exchanged) if same(other)])
        assert_same(self, spare(kinds, kind, clauses),
                    [at for at in range(len(clauses)) if same(clauses[:at] + clauses[at + 1:])])
        found = lean(kinds, kind, clauses)
        self.assertEqual(found, sorted(set(found)))
        self.assertTrue(set(found) <= set(range(len(clauses))))
        self.assertTrue(same([clauses[at] for at in found]))
        for shorter in combinations(clauses, len(found) - 1) if found else []:
            self.assertFalse(same(list(shorter)))
        for function in (swaps, spare, lean):
            assert_same(self, function(turned(kinds), kind, deepcopy(clauses)), function(kinds, kind, clauses))
        self.assertEqual(repr(clauses), kept)
        return found

    def test_kinds_that_hold_one_another(self):
        random = Random(8)
        for kinds in (GARDEN, MIXED, NEST, GRID, PAIRS):
            for kind in kinds:
                for labels in ("a", "ab", "abc"):
                    clauses = any_clauses(random, kinds, kind, 2, labels) + [(None, "a")]
                    with self.subTest(kind=kind, clauses=clauses):
                        self.assert_found(kinds, kind, clauses)
                        self.assert_found(kinds, kind, clauses[:-1])

    def test_many_kinds_and_clauses(self):
        shortened = {}
        for seed in range(150):
            random = Random(seed)
            kinds, kind, clauses = some_kinds_and_clauses(random, random.randint(1, 3))
            with self.subTest(seed=seed):
                found = self.assert_found(kinds, kind, clauses)
                shortened[len(found)] = shortened.get(len(found), 0) + (len(found) < len(clauses))
        for length in (1, 2, 3):
            self.assertGreater(shortened[length], 0)

    def test_many_numbers(self):
        kinds = {"n": ("numbers", 0, 6)}
        for seed in range(200):
            random = Random(seed)
            clauses = []
            for _ in range(random.randint(0, 6)):
                bounds = sorted([random.randint(0, 6), random.randint(0, 6)])
                clauses.append((("from", *bounds), random.choice("ab")))
            with self.subTest(clauses=clauses):
                self.assert_found(kinds, "n", clauses)

    def test_no_clauses_and_one(self):
        for function in (swaps, spare, lean):
            for kinds in (GARDEN, MIXED, NEST, GRID):
                for kind in kinds:
                    assert_same(self, function(kinds, kind, []), [])
        assert_same(self, [function(GARDEN, "small", [(ONE, "a")]) for function in (swaps, spare, lean)], [[], [], [0]])
        assert_same(self, [function(GARDEN, "small", [(("from", 2, 1), "a")]) for function in (swaps, spare, lean)],
                    [[], [0], []])

    def test_clauses_that_stand_twice(self):
        twice = [(ONE, "a"), (ONE, "a"), (HIGH, "b")]
        assert_same(self, [swaps(GARDEN, "small", twice), spare(GARDEN, "small", twice)], [[0, 1], [0, 1]])
        self.assertIn(lean(GARDEN, "small", twice), ([0, 2], [1, 2]))
        unlike = [(ONE, "a"), (ONE, "b")]
        assert_same(self, [function(GARDEN, "small", unlike) for function in (swaps, spare, lean)], [[], [1], [0]])

    def test_clauses_that_take_no_value(self):
        clauses = [(("from", 3, 2), "a"), (LOW, "b"), (("from", 9, None), "c"), (HIGH, "d"), (None, "e")]
        assert_same(self, [function(GARDEN, "small", clauses) for function in (swaps, spare, lean)],
                    [[0, 1, 2], [0, 2, 4], [1, 3]])
        assert_same(self, [function(GARDEN, "small", clauses[::2]) for function in (swaps, spare, lean)],
                    [[0, 1], [0, 1], [2]])

    def test_labels_alone(self):
        clauses = [(ONE, "a"), (TWO, "a"), (None, "a")]
        assert_same(self, [function(GARDEN, "small", clauses) for function in (swaps, spare, lean)],
                    [[0, 1], [0, 1], [2]])
        clauses[1] = (TWO, "b")
        assert_same(self, [function(GARDEN, "small", clauses) for function in (swaps, spare, lean)],
                    [[0], [0], [1, 2]])

    def test_each_alone_but_not_together(self):
        clauses = [(("from", 1, 2), "a"), (("from", 2, 3), "a"), (("or", [ONE, THREE]), "a")]
        assert_same(self, spare(GARDEN, "small", clauses), [0, 1, 2])
        self.assertEqual(len(self.assert_found(GARDEN, "small", clauses)), 2)
        # The greatest clause is none of the fewest.
        kinds = {"n": ("numbers", 1, 6)}
        clauses = [(("from", 2, 5), "a"), (("from", 1, 3), "a"), (("from", 4, 6), "a")]
        assert_same(self, [spare(kinds, "n", clauses), lean(kinds, "n", clauses)], [[0], [1, 2]])

    def test_a_clause_that_keeps_values_from_the_next_one(self):
        # Of two clauses with the same values, the first one is needed only because of the second one.
        clauses = [(ONE, "a"), (LOW, "b"), (None, "a")]
        assert_same(self, [function(GARDEN, "small", clauses) for function in (swaps, spare, lean)], [[1], [1], [2]])
        clauses = [(TWO, "a"), (("from", 1, 2), "b"), (None, "a")]
        assert_same(self, [function(GARDEN, "small", clauses) for function in (swaps, spare, lean)],
                    [[], [], [0, 1, 2]])

    def test_gaps_and_great_ranges(self):
        hole = ("or", [("from", None, 10 ** 19), ("from", 10 ** 19 + 2, None)])
        clauses = [(("gap", [hole], []), "a"), (("gap", [], [hole]), "b"), (("row", [None]), "b"), (SOME, "a")]
        assert_same(self, [function(LONG, "row", clauses) for function in (swaps, spare)], [[1], []])
        clauses[2] = (("row", [("from", 10 ** 19 + 1, 10 ** 19 + 1)]), "a")
        assert_same(self, [function(LONG, "row", clauses) for function in (swaps, spare, lean)],
                    [[1, 2], [2], [0, 1, 3]])

    def test_more_clauses_than_the_limits(self):
        clauses = [(("from", at, at + 2), "ab"[at % 2]) for at in range(14)]
        self.assert_found({"n": ("numbers", 0, 20)}, "n", clauses[:9])
        self.assertEqual(len(lean({"n": ("numbers", 0, 20)}, "n", clauses + clauses)), 14)

    def test_new_lists_each_time(self):
        clauses = [(ONE, "a"), (TWO, "a"), (HIGH, "b"), (None, "b")]
        for function in (swaps, spare, lean):
            first = function(GARDEN, "small", clauses)
            kept = list(first)
            first.append(0)
            assert_same(self, function(GARDEN, "small", clauses), kept)


if __name__ == "__main__":
    unittest.main()
