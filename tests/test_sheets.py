"""Promises 70 to 72: sheets, which show that two lists of clauses do the same."""

import unittest
from copy import deepcopy
from random import Random

from firstclause.sheets import check_sheet, sheet
from tests.plain import any_clauses, any_kinds, change_lines, plain_check_sheet, plain_label, turned, values_up_to
from tests.support import GARDEN, GARDEN_CLAUSES, GRID, LONG, MIXED, NEST, ODD_OBJECTS, PAIRS, assert_same

LEAF, FORK = ("maker", "leaf", [None]), ("maker", "fork", [None, None])
EMPTY, SOME, ROWS = ("row", []), ("gap", [None], []), ("gap", [], [])
LOW, HIGH = ("from", None, 1), ("from", 2, None)


def labelled(*patterns):
    """Clauses with unlike labels."""
    return [(pattern, "abcdefg"[at]) for at, pattern in enumerate(patterns)]


class Examples(unittest.TestCase):
    def test_examples_of_the_document(self):
        kinds, clauses = GARDEN, GARDEN_CLAUSES
        whole, some = [(("gap", [], []), "all")], ("gap", [None], [])
        pages = {"list": [[(some, True)], [(some, False)]], "small": [[]], "tree": [[]]}
        empty = {"list": [[]], "small": [[]], "tree": [[]]}
        assert_same(self, [check_sheet(kinds, "list", [(some, "more")], [(("or", [some]), "more")], pages),
                           check_sheet(kinds, "list", [(some, "more")], [], pages),
                           check_sheet(kinds, "list", whole, [(None, "all")], empty)], [True, False, True])
        told = sheet(kinds, "tree", clauses, [clauses[0], clauses[2], clauses[1]])
        assert_same(self, [sheet(kinds, "list", whole, [(some, "all")]),
                           check_sheet(kinds, "tree", clauses, clauses[::-1], told)], [None, False])
        self.assertIs(check_sheet(kinds, "tree", clauses, [clauses[0], clauses[2], clauses[1]], told), True)


class Told(unittest.TestCase):
    """The sheets that are told."""

    def assert_told(self, kinds, kind, one, other, size=4):
        found = sheet(kinds, kind, one, other)
        if any(plain_label(one, value) != plain_label(other, value) for value in values_up_to(kinds, kind, size)):
            self.assertIsNone(found)
        if found is None:
            return None
        self.assertEqual(sorted(found), sorted(kinds))
        self.assertIs(check_sheet(kinds, kind, one, other, found), True)
        # To go through all choices word by word takes long.
        if max(map(len, found.values())) < 25:
            self.assertTrue(plain_check_sheet(kinds, kind, one, other, found))
        self.assertTrue(all(truth is True or truth is False for lines in found.values() for line in lines
                            for _, truth in line))
        assert_same(self, sorted(sheet(turned(kinds), kind, one, other).items()), sorted(found.items()))
        return found

    def test_equal_lists(self):
        random = Random(3)
        for kinds in (GARDEN, MIXED, GRID, PAIRS, NEST):
            for kind in kinds:
                for depth in (1, 2):
                    clauses = any_clauses(random, kinds, kind, depth)
                    with self.subTest(kind=kind, clauses=clauses):
                        self.assertIsNotNone(self.assert_told(kinds, kind, clauses, clauses))
                        spelled = [(("or", [pattern, pattern]), label) for pattern, label in clauses]
                        self.assertIsNotNone(self.assert_told(kinds, kind, clauses, spelled))
                        self.assertIsNotNone(self.assert_told(kinds, kind, clauses + [(None, "a")],
                                                              spelled + [(None, "a"), (None, "b")]))

    def test_many_kinds_and_clauses(self):
        same = 0
        for seed in range(80):
            random = Random(seed)
            kinds = any_kinds(random)
            kind = random.choice(sorted(kinds))
            clauses = any_clauses(random, kinds, kind, random.randint(1, 3))
            other = list(clauses)
            if len(other) > 1:
                at = random.randrange(len(other) - 1)
                other[at:at + 2] = [other[at + 1], other[at]]
            with self.subTest(seed=seed):
                same += self.assert_told(kinds, kind, clauses, other) is not None
                self.assert_told(kinds, kind, clauses, clauses + [(None, "a")])
        self.assertGreater(same, 20)

    def test_lists_that_do_the_same(self):
        leaf, fork = ("maker", "fork", [LEAF, None]), ("maker", "fork", [FORK, None])
        for kind, one, other in (
                ("small", [(LOW, "a"), (None, "b")], [(HIGH, "b"), (None, "a")]),
                ("small", [(("from", 1, 2), "a"), (HIGH, "b")], [(("from", 3, 3), "b"), (None, "a")]),
                ("tree", [(leaf, "a"), (fork, "b"), (LEAF, "c")], [(LEAF, "c"), (fork, "b"), (FORK, "a")]),
                ("tree", [], [(("or", [("maker", "leaf", [("from", 9, 9)])]), "a")]),
                ("list", [(EMPTY, "a"), (None, "b")], [(SOME, "b"), (EMPTY, "a")]),
                ("list", [(("gap", [LOW], []), "a"), (("gap", [HIGH], []), "b")],
                 [(("gap", [HIGH], []), "b"), (SOME, "a")]),
                ("list", [(("gap", [], [LOW]), "a"), (SOME, "b")], [(("gap", [], [HIGH]), "b"), (SOME, "a")]),
                ("list", [(("gap", [LOW], [HIGH]), "a")],
                 [(("row", [LOW, HIGH]), "a"), (("gap", [LOW, None], [HIGH]), "a")])):
            with self.subTest(one=one, other=other):
                self.assertIsNotNone(self.assert_told(GARDEN, kind, one, other))
                self.assertIsNotNone(self.assert_told(GARDEN, kind, other, one))

    def test_lists_that_do_not(self):
        for kind, one, other in (
                ("small", [(LOW, "a"), (None, "b")], [(("from", 3, None), "b"), (None, "a")]),
                ("tree", [(("maker", "fork", [LEAF, None]), "a")], [(("maker", "fork", [None, LEAF]), "a")]),
                ("list", [(EMPTY, "a"), (None, "b")], [(None, "b")]),
                ("list", [(("gap", [LOW], [HIGH]), "a")], [(("row", [LOW, HIGH]), "a")]),
                ("list", [(("gap", [], [LOW]), "a"), (SOME, "b")], [(("gap", [LOW], []), "a"), (SOME, "b")])):
            with self.subTest(one=one, other=other):
                self.assertIsNone(self.assert_told(GARDEN, kind, one, other))
                self.assertIsNone(self.assert_told(GARDEN, kind, other, one))

    def test_labels_alone_matter(self):
        self.assertIsNotNone(self.assert_told(GARDEN, "tree", [(LEAF, "a"), (None, "a")], [(None, "a")]))
        self.assertIsNone(sheet(GARDEN, "tree", [(LEAF, "a"), (None, "b")], [(None, "a")]))
        self.assertIsNone(sheet(GARDEN, "tree", [(LEAF, "a")], [(None, "a")]))
        self.assertIsNone(sheet(GARDEN, "tree", [], [(None, "a")]))
        self.assertIsNone(sheet(GARDEN, "tree", [(None, "a")], []))
        self.assertIsNotNone(self.assert_told(GARDEN, "tree", [], []))

    def test_great_ranges(self):
        one = [(("from", None, 10 ** 19), "a"), (None, "b")]
        for bound in (10 ** 19, 10 ** 19 + 1, 10 ** 19 + 2):
            found = self.assert_told(LONG, "digit", one, [(("from", bound, None), "b"), (None, "a")], 0)
            self.assertIs(found is None, bound != 10 ** 19 + 1)
        rest = ("or", [("from", None, 4), ("from", 6, None)])
        five = [(("gap", [("from", 5, 5)], []), "a"), (None, "b")]
        other = [(("gap", [rest], []), "b"), (EMPTY, "b"), (None, "a")]
        self.assertIsNotNone(self.assert_told(LONG, "row", five, other, 0))
        self.assertIsNone(self.assert_told(LONG, "row", five, [other[0], other[2]], 0))

    def test_new_lists_each_time(self):
        one = [(("or", [LEAF, ("maker", "fork", [FORK, None])]), "a"), (("maker", "fork", [LEAF, None]), "b")]
        other = [one[1], one[0]]
        kept = deepcopy(one)
        first = sheet(GARDEN, "tree", one, other)
        told = deepcopy(first)
        for lines in first.values():
            for line in lines:
                for pattern, _ in line:
                    if pattern is not None and pattern[0] == "maker":
                        pattern[2].append("spoilt")
                line.append("spoilt")
            lines.append("spoilt")
        assert_same(self, sheet(GARDEN, "tree", one, other), told)
        assert_same(self, one, kept)


class Checks(unittest.TestCase):
    def assert_checked(self, kinds, kind, one, other, lines, expected):
        kept = repr((kinds, one, other, lines))
        self.assertIs(check_sheet(kinds, kind, one, other, lines), expected, lines)
        self.assertIs(check_sheet(kinds, kind, other, one, lines), expected, lines)
        self.assertIs(check_sheet(turned(kinds), kind, one, other, turned(lines)), expected, lines)
        self.assertIs(plain_check_sheet(kinds, kind, one, other, lines), expected, lines)
        self.assertEqual(repr((kinds, one, other, lines)), kept)

    def assert_shown(self, kinds, kind, lines, expected, **others):
        """Assert whether lines are a sheet where no clauses have to be decided."""
        told = {each: others.get(each, [[]]) for each in kinds}
        self.assert_checked(kinds, kind, [], [], {**told, kind: lines}, expected)

    def test_random_changes(self):
        for seed in range(60):
            random = Random(seed)
            kinds = any_kinds(random)
            kind = random.choice(sorted(kinds))
            one = any_clauses(random, kinds, kind, 2)
            other = one + [(pattern, "z") for pattern, _ in one[:1]]
            told = sheet(kinds, kind, one, other)
            if max(map(len, told.values())) > 15:
                continue
            for _ in range(6):
                lines = deepcopy(told)
                for _ in range(random.randint(0, 2)):
                    change_lines(random, kinds, lines, True)
                expected = plain_check_sheet(kinds, kind, one, other, lines)
                with self.subTest(seed=seed, lines=lines):
                    self.assertIs(check_sheet(kinds, kind, one, other, lines), expected)

    def test_lines_left_out_and_put_in(self):
        pages = {"list": [[(SOME, True)], [(SOME, False)]], "small": [[]], "tree": [[]]}
        one, other = [(SOME, "a")], [(("or", [SOME]), "a")]
        for kind, lines in pages.items():
            for at in range(len(lines)):
                self.assert_checked(GARDEN, "list", one, other, {**pages, kind: lines[:at] + lines[at + 1:]}, False)
            self.assert_checked(GARDEN, "list", one, other, {**pages, kind: lines + lines[::-1]}, True)
            self.assert_checked(GARDEN, "list", one, other, {**pages, kind: []}, False)
        for line, expected in (([], False), ([(EMPTY, True)], False), ([(SOME, True), (SOME, False)], True),
                               ([(("or", [SOME]), True)], False), ([(("or", [SOME]), False)], False),
                               ([(SOME, True), (EMPTY, True)], True), ([(SOME, True), (SOME, True)], True)):
            self.assert_checked(GARDEN, "list", one, other, {**pages, "list": pages["list"] + [line]}, expected)
        swapped = {**pages, "list": [[(SOME, True)], [(SOME, True)]]}
        self.assert_checked(GARDEN, "list", one, other, swapped, False)

    def test_numbers_and_words(self):
        kinds = {"small": ("numbers", 1, 3), "word": ("words", ["x", "y"])}
        for lines, expected in (([[(LOW, True)], [(LOW, False)]], True), ([[(LOW, True)], [(HIGH, True)]], True),
                                ([[(LOW, True), (HIGH, False)], [(LOW, False), (HIGH, True)]], True),
                                ([[(LOW, False)]], False), ([[(LOW, True), (HIGH, True)], []], True),
                                ([[(LOW, True), (LOW, False)]], False), ([[(None, True)]], True),
                                ([[(None, False)]], False), ([[(("from", 3, 2), False)]], True),
                                ([[(("from", 3, 2), True)]], False), ([[(("or", [LOW, HIGH]), True)]], True),
                                ([[(("or", [LOW, ("from", 3, 3)]), False)], [(HIGH, False)]], False),
                                ([[(("or", [LOW, ("from", 3, 3)]), False)], [(("from", 2, 2), False)]], True)):
            self.assert_shown(kinds, "small", lines, expected)
        word = ("word", "x")
        for lines, expected in (([[(word, True)], [(word, False)]], True), ([[(word, True)]], False),
                                ([[(word, False)]], False), ([[(("or", [word, ("word", "y")]), True)]], True),
                                ([[(word, True)], [(("word", "y"), True)]], True)):
            self.assert_shown(kinds, "word", lines, expected)

    def test_great_ranges(self):
        kinds = {"n": ("numbers", 0, 10 ** 24)}
        first = ("from", None, 10 ** 20)
        for bound in (10 ** 20 + 1, 10 ** 20 + 2):
            pages = {"n": [[(first, True)], [(("from", bound, None), True)]]}
            self.assertIs(check_sheet(kinds, "n", [], [], pages), bound == 10 ** 20 + 1)
            pages = {"n": [[(first, True)], [(first, False), (("from", bound, None), True)]]}
            self.assertIs(check_sheet(kinds, "n", [], [], pages), bound == 10 ** 20 + 1)

    def test_makers(self):
        leaf, fork = (LEAF, True), (FORK, True)
        low = ("maker", "leaf", [LOW])
        for lines, expected in (([[leaf], [fork]], True), ([[leaf, (FORK, False)], [fork, (LEAF, False)]], True),
                                ([[leaf], [(LEAF, False)]], True), ([[(FORK, False)], [(LEAF, False)]], True),
                                ([[leaf], [(FORK, False)]], False), ([[(None, True)]], True),
                                ([[(None, False)]], False),
                                ([[(("or", [LEAF, FORK]), True)]], True), ([[(("or", [LEAF, FORK]), False)]], False),
                                ([[(("or", [LEAF]), False)], [(("or", [FORK]), False)]], True),
                                ([[(low, True)], [fork]], False), ([[(low, True)], [(low, False)]], False)):
            self.assert_shown(GARDEN, "tree", lines, expected)
        small = [[(LOW, True)], [(LOW, False)]]
        for lines, expected in (([[(low, True)], [(low, False)]], True), ([[(low, False)]], False),
                                ([[(low, True)], [(LEAF, True), (low, False)], [fork, (low, False)]], True),
                                ([[(low, True)], [fork, (low, False)]], False),
                                ([[(("or", [low, FORK]), True)], [(("or", [low, FORK]), False)]], True)):
            self.assert_shown(GARDEN, "tree", lines, expected, small=small)

    def test_what_a_line_denies(self):
        kinds = {"top": ("makers", [("top", ["leaf"])]), "leaf": ("makers", [("p", []), ("q", []), ("r", [])])}
        one, two, three = (("maker", maker, []) for maker in "pqr")
        inner = ("or", [two, three])
        whole = ("or", [one, inner])
        for pattern, leaf, expected in (
                (one, [[(one, False)], [(one, True)]], True), (one, [[(one, False)], []], False),
                (whole, [[(whole, False)], [(None, True)]], False),
                (inner, [[(two, False), (three, False)], [(two, True)], [(three, True)]], True),
                (inner, [[(two, False)], [(two, True)]], False),
                (inner, [[(("or", [three, two]), False)], [(two, True)], [(three, True)]], False),
                (inner, [[(inner, False)], [(two, True)], [(three, True)]], True),
                (whole, [[(one, True)], [(one, False), (inner, True)]], True),
                (("or", [one, one]), [[(one, True)], [(one, False)]], True),
                (("or", [inner, ("or", [inner])]), [[(inner, True)], [(inner, False)]], True)):
            held = ("maker", "top", [pattern])
            self.assert_shown(kinds, "top", [[(held, True)], [(held, False)]], expected, leaf=leaf)
        held = [("maker", "top", [inner]) for inner in (one, None, ("or", [None]))]
        leaf = [[(one, True)], [(one, False)]]
        top = [[(held[0], True)], [(held[0], False)], [(held[1], False)], [(held[2], False)]]
        self.assert_shown(kinds, "top", top, True, leaf=leaf)
        self.assert_shown(kinds, "top", top, False, leaf=leaf + [[(None, False)]])
        self.assert_shown(kinds, "top", top, True, leaf=leaf + [[(("or", [None]), False)]])

    def test_two_parts_of_one_kind_may_have_different_lines(self):
        left, right = ("maker", "fork", [LEAF, None]), ("maker", "fork", [None, LEAF])
        tree = [[(LEAF, True), (left, False), (right, False)], [(LEAF, False), (left, True), (right, True)],
                [(LEAF, False), (left, True), (right, False)], [(LEAF, False), (left, False), (right, True)],
                [(LEAF, False), (left, False), (right, False)]]
        self.assert_shown(GARDEN, "tree", tree, True)
        for at in range(len(tree)):
            self.assert_shown(GARDEN, "tree", tree[:at] + tree[at + 1:], False)
        both = ("maker", "fork", [LEAF, LEAF])
        self.assert_shown(GARDEN, "tree", [[(LEAF, True)], [(LEAF, False), (both, False)],
                                           [(LEAF, False), (both, True)]], True)

    def test_rows(self):
        small = [[(LOW, True)], [(LOW, False)]]
        first, last, one = ("gap", [LOW], []), ("gap", [], [LOW]), ("row", [LOW])
        for lines, expected in (
                ([[(EMPTY, True)], [(EMPTY, False)]], True), ([[(EMPTY, False)]], False), ([[(EMPTY, True)]], False),
                ([[(EMPTY, True)], [(SOME, True)]], True), ([[(SOME, False)], [(SOME, True)]], True),
                ([[(ROWS, True)]], True), ([[(ROWS, False)]], False), ([[(EMPTY, True)], [(ROWS, False)]], False),
                ([[(None, False)]], False), ([[(first, True)], [(first, False)]], True),
                ([[(first, True)], [(EMPTY, True)]], False), ([[(one, True)], [(one, False)]], False),
                ([[(one, True), (EMPTY, False)], [(one, False), (EMPTY, False)], [(one, False), (EMPTY, True)]], True),
                ([[(last, True)], [(last, False)]], False),
                ([[(last, True), (EMPTY, False)], [(last, False), (EMPTY, False)], [(last, False), (EMPTY, True)]],
                 True),
                ([[(last, True), (EMPTY, False)], [(last, False)], [(last, False), (EMPTY, True)]], False),
                ([[(("or", [EMPTY, first]), True)], [(("or", [EMPTY, first]), False)]], True),
                ([[(("or", [EMPTY, SOME]), True)]], True), ([[(("or", [EMPTY, SOME]), False)]], False)):
            self.assert_shown(GARDEN, "list", lines, expected, small=small)

    def test_a_denied_rest(self):
        small = [[(LOW, True)], [(LOW, False)]]
        pair, one, around = ("row", [LOW, None]), ("row", [None]), ("gap", [LOW], [LOW])
        sizes = [[(EMPTY, True), (one, False)], [(EMPTY, False), (one, True)], [(EMPTY, False), (one, False)]]
        pages = [line + [(pair, truth)] for line in sizes for truth in (True, False)]
        self.assert_shown(GARDEN, "list", pages, True, small=small)
        self.assert_shown(GARDEN, "list", [line[1:] for line in pages], False, small=small)
        last = ("gap", [], [LOW])
        ends = [line + [(last, truth), (around, other)] for line in ([(EMPTY, True)], [(EMPTY, False)])
                for truth in (True, False) for other in (True, False)]
        self.assert_shown(GARDEN, "list", ends, True, small=small)
        self.assert_shown(GARDEN, "list", [line[:2] + line[2:] for line in ends if (around, False) in line], False,
                          small=small)

    def test_a_gap_is_denied_by_the_rest_and_besides_by_a_cell_or_a_row(self):
        never, small = ("from", 3, 2), [[(LOW, True)], [(LOW, False)]]
        last, two = ("gap", [], [never]), ("gap", [], [LOW, HIGH])
        for ahead, cells, expected in (([(last, False)], [[(never, False)]], True), ([], [[(never, False)]], False),
                                       ([(last, False)], [[]], False),
                                       ([(last, False)], [[], [(never, False)]], False)):
            lines = [[(EMPTY, True)] + ahead, [(EMPTY, False), (last, False)]]
            self.assert_shown(GARDEN, "list", lines, expected, small=cells)
        one = ("row", [HIGH])
        lines = [[(EMPTY, told), (one, single), (two, both)] for told in (True, False) for single in (True, False)
                 for both in (True, False)]
        self.assert_shown(GARDEN, "list", [[line[2]] for line in lines], False, small=small)
        high = [[(LOW, truth), (HIGH, not truth)] for truth in (True, False)]
        self.assert_shown(GARDEN, "list", lines, True, small=high)

    def test_gaps_that_are_denied_whole(self):
        # ("gap", [], []) can stand in a line as not fitting, but no such line is ever shown.
        self.assert_shown(GARDEN, "list", [[(ROWS, False), (SOME, False)], [(SOME, True)]], False)
        self.assert_shown(GARDEN, "list", [[(ROWS, False)], [(EMPTY, True)], [(SOME, True)]], True)
        self.assert_shown(GARDEN, "list", [[(ROWS, False)], [(EMPTY, True)], [(EMPTY, False)]], True)
        self.assert_shown(GARDEN, "list", [[(SOME, False)], [(SOME, True)]], True)

    def test_which_lists_a_line_decides(self):
        def assert_line(one, other, line, expected):
            # The second line takes care of all values.
            kinds = {"m": ("makers", [("p", []), ("q", [])])}
            self.assert_checked(kinds, "m", one, other, {"m": [line]}, expected)

        p, q = ("maker", "p", []), ("maker", "q", [])
        both = ("or", [p, q])
        assert_line([], [], [], True)
        assert_line([(None, "a")], [], [], False)
        assert_line([(None, "a")], [(None, "a")], [], True)
        assert_line([(None, "a")], [(None, "b")], [], False)
        assert_line([(None, "a")], [(None, "a"), (p, "b")], [], True)
        assert_line([(None, "a")], [(p, "a"), (None, "a")], [], False)
        assert_line([(both, "a")], [(None, "a")], [], False)
        assert_line([(both, "a")], [(None, "a")], [(both, True)], True)
        assert_line([(("or", [both]), "a")], [(None, "a")], [(both, True)], True)
        assert_line([(("or", [p, None]), "a")], [(None, "a")], [], True)
        assert_line([(both, "a")], [(("or", [q, p]), "a")], [(both, True)], False)
        assert_line([(both, "a")], [(("or", [q, p]), "a")], [(both, True), (("or", [q, p]), True)], True)
        kinds = {"m": ("makers", [("p", []), ("q", [])])}
        lines = [[(p, True), (q, False)], [(p, False), (q, True)]]
        for one, other, expected in (
                ([(p, "a"), (q, "b")], [(q, "b"), (p, "a")], True),
                ([(p, "a"), (q, "b")], [(p, "a"), (None, "b")], True),
                ([(p, "a")], [(p, "a"), (None, "b")], False), ([(p, "a"), (q, "a")], [(both, "a")], True),
                ([(both, "a"), (q, "b")], [(None, "a")], True), ([(p, "a"), (q, "b")], [(q, "a"), (p, "b")], False)):
            self.assert_checked(kinds, "m", one, other, {"m": lines}, expected)
        # The first line grants p, but neither grants nor denies q.
        self.assert_checked(kinds, "m", [(p, "a"), (q, "b")], [(p, "a"), (None, "b")],
                            {"m": [[(p, True)], [(p, False), (q, True)]]}, True)
        self.assert_checked(kinds, "m", [(p, "a"), (q, "b")], [(q, "b"), (p, "a")],
                            {"m": [[(p, True)], [(p, False), (q, True)]]}, False)
        self.assert_checked(kinds, "m", [(("or", [p]), "a")], [(p, "a")], {"m": lines}, True)

    def test_what_is_granted_is_not_passed_over(self):
        empty = {"m": ("makers", [("p", [])])}
        p = ("maker", "p", [])
        lines = {"m": [[(p, True)], [(p, True), (p, False)]]}
        self.assert_checked(empty, "m", [(p, "a"), (None, "b")], [(None, "a")], lines, True)
        self.assert_checked(empty, "m", [(p, "a"), (None, "b")], [(None, "b")], lines, False)
        self.assert_checked(GARDEN, "list", [(ROWS, "a"), (None, "b")], [(None, "a")],
                            {"list": [[], [(ROWS, False)]], "small": [[]], "tree": [[]]}, True)

    def test_kinds_that_the_clauses_do_not_hold(self):
        for lines, expected in (([[(LEAF, True)], [(LEAF, False)]], True), ([[(LEAF, True)]], False), ([], False)):
            self.assert_checked(GARDEN, "list", [], [], {"list": [[]], "small": [[]], "tree": lines}, expected)


class AnyObject(unittest.TestCase):
    WHOLE = {"tree": [[(LEAF, True)], [(LEAF, False)]], "list": [[]], "small": [[]]}

    def assert_none(self, value):
        self.assertIs(check_sheet(GARDEN, "tree", [(LEAF, "a")], [(LEAF, "a")], value), False, value)

    def test_what_is_no_sheet(self):
        self.assertIs(check_sheet(GARDEN, "tree", [(LEAF, "a")], [(LEAF, "a")], self.WHOLE), True)
        deep = []
        for _ in range(500):
            deep = [deep]
        for odd in [odd for odd in ODD_OBJECTS if odd not in ([], [[]])] + [deep, tuple(self.WHOLE.items())]:
            self.assert_none(odd)
            for kind, lines in self.WHOLE.items():
                self.assert_none({**self.WHOLE, kind: odd})
                self.assert_none({**self.WHOLE, kind: lines + [odd]})
                self.assert_none({**self.WHOLE, kind: lines + [lines[0] + [odd]]})

    def test_truths_that_are_none(self):
        for truth in (0, 1, None, "", "True", [], [True], (), (True,), {}, -1):
            self.assert_none({**self.WHOLE, "tree": self.WHOLE["tree"] + [[(LEAF, True), (LEAF, truth)]]})
            self.assert_none({**self.WHOLE, "small": [[], [(None, truth)]]})

    def test_entries_that_are_none(self):
        for entry in (LEAF, None, (LEAF,), (LEAF, True, True), [LEAF, True], (True, LEAF), ((LEAF, True), True),
                      (("maker", "leaf", (None,)), True), (("from", 1, 2), True), (EMPTY, True), ("leaf", True), {},
                      ()):
            self.assert_none({**self.WHOLE, "tree": self.WHOLE["tree"] + [[(LEAF, True), entry]]})

    def test_just_the_kinds_are_keys(self):
        for kind in self.WHOLE:
            less = {key: lines for key, lines in self.WHOLE.items() if key != kind}
            self.assert_none(less)
            for other in ("word", "", None, 1, True, (kind,)):
                self.assert_none({**less, other: [[]]})
                self.assert_none({**self.WHOLE, other: [[]]})

    def test_tuples_are_no_lists(self):
        for wrong in ({**self.WHOLE, "tree": tuple(self.WHOLE["tree"])}, {**self.WHOLE, "list": ()},
                      {**self.WHOLE, "tree": [tuple(line) for line in self.WHOLE["tree"]]},
                      {**self.WHOLE, "list": [()]}, {**self.WHOLE, "list": [[], [(("row", ()), True)]]}):
            self.assert_none(wrong)

    def test_a_table_is_no_sheet(self):
        self.assert_none({"tree": [[LEAF], [("maker", "fork", [None, None])]], "list": [[]], "small": [[]]})


if __name__ == "__main__":
    unittest.main()
