"""Promises 60 to 62: tables, which show that no value is missing."""

import unittest
from copy import deepcopy
from random import Random

from firstclause.least import least_missing
from firstclause.tables import check_table, table
from tests.plain import any_clauses, any_kinds, change_lines, plain_check_table, turned
from tests.support import GARDEN, GRID, LONG, MIXED, NEST, ODD_OBJECTS, PAIRS, assert_same

BOTH = [(("row", []), "none"), (("gap", [None], []), "some")]
LINES = {"list": [[("row", [])], [("gap", [None], [])]], "small": [[]], "tree": [[]]}
LEAF, FORK = ("maker", "leaf", [None]), ("maker", "fork", [None, None])
# Makers without parts, two parts of one kind, and a part of another kind.
BUSH = {"bush": ("makers", [("nil", []), ("two", ["bush", "bush"]), ("bud", ["word"])]), "word": ("words", ["x", "y"])}
NIL, TWO, BUD = ("maker", "nil", []), ("maker", "two", [None, None]), ("maker", "bud", [None])


class Examples(unittest.TestCase):
    def test_examples_of_the_document(self):
        kinds = GARDEN
        both = [(("row", []), "none"), (("gap", [None], []), "some")]
        lines = {"list": [[("row", [])], [("gap", [None], [])]], "small": [[]], "tree": [[]]}
        one = {"list": [[("row", [])]], "small": [[]], "tree": [[]]}
        assert_same(self, [check_table(kinds, "list", both, lines), check_table(kinds, "list", both, one),
                           table(kinds, "list", both[:1])], [True, False, None])
        every = {"list": [[]], "small": [[]], "tree": [[None]]}
        assert_same(self, [check_table(kinds, "list", both, table(kinds, "list", both)),
                           check_table(kinds, "tree", [(None, "all")], every)], [True, True])


class Told(unittest.TestCase):
    """The tables that are told."""

    def assert_told(self, kinds, kind, clauses):
        found = table(kinds, kind, clauses)
        if least_missing(kinds, kind, clauses) is not None:
            self.assertIsNone(found)
            return None
        self.assertEqual(sorted(found), sorted(kinds))
        self.assertIs(check_table(kinds, kind, clauses, found), True)
        self.assertTrue(plain_check_table(kinds, kind, clauses, found))
        assert_same(self, sorted(table(turned(kinds), kind, clauses).items()), sorted(found.items()))
        return found

    def test_kinds_that_hold_one_another(self):
        random = Random(2)
        for kinds in (GARDEN, MIXED, NEST, GRID, PAIRS, BUSH, LONG):
            for kind in kinds:
                for depth in (1, 2, 3):
                    clauses = any_clauses(random, kinds, kind, depth)
                    with self.subTest(kind=kind, clauses=clauses):
                        self.assert_told(kinds, kind, clauses)
                        self.assertIsNotNone(self.assert_told(kinds, kind, clauses + [(None, "rest")]))

    def test_many_kinds_and_clauses(self):
        for seed in range(60):
            random = Random(seed)
            kinds = any_kinds(random)
            kind = random.choice(sorted(kinds))
            clauses = any_clauses(random, kinds, kind, random.randint(1, 3))
            with self.subTest(seed=seed):
                self.assert_told(kinds, kind, clauses)
                self.assert_told(kinds, kind, clauses + [(None, "rest")])

    def test_lists_without_a_last_clause_that_takes_all(self):
        low, high, last = ("from", None, 2), ("from", 3, None), ("gap", [], [("from", 2, None)])
        for kinds, kind, patterns in (
                (GARDEN, "small", [low, high]),
                (GARDEN, "list", [("row", []), ("gap", [low], []), ("gap", [high], [])]),
                (GARDEN, "list", [last, ("gap", [], [("from", 1, 1)]), ("row", [])]),
                (GARDEN, "tree", [LEAF, ("maker", "fork", [FORK, None]), ("maker", "fork", [LEAF, None])]),
                (GARDEN, "tree", [("or", [LEAF, ("maker", "fork", [None, ("or", [LEAF, FORK])])])]),
                (BUSH, "bush", [NIL, ("maker", "two", [None, NIL]), ("maker", "two", [NIL, None]), BUD,
                                ("maker", "two", [("or", [TWO, BUD]), ("or", [TWO, BUD])])]),
                (NEST, "nest", [("row", []), ("gap", [("row", [])], []), ("gap", [("gap", [None], [])], [])]),
                (GRID, "grid", [("row", []), ("gap", [], [("row", [])]), ("gap", [], [("gap", [None], [])])])):
            clauses = [(pattern, "a") for pattern in patterns]
            self.assertIsNotNone(self.assert_told(kinds, kind, clauses))
            for at in range(len(clauses)):
                self.assertIsNone(self.assert_told(kinds, kind, clauses[:at] + clauses[at + 1:]))

    def test_great_ranges(self):
        first, hole = ("from", None, 10 ** 19), ("from", 10 ** 19 + 2, None)
        cells = [(("row", []), "none"), (("gap", [first], []), "low"), (("gap", [hole], []), "high")]
        self.assertIsNone(self.assert_told(LONG, "row", cells))
        middle = (("gap", [("from", 10 ** 19 + 1, 10 ** 19 + 1)], []), "mid")
        self.assertIsNotNone(self.assert_told(LONG, "row", cells + [middle]))

    def test_no_clauses(self):
        for kinds in (GARDEN, MIXED, NEST, LONG):
            for kind in kinds:
                self.assertIsNone(table(kinds, kind, []))

    def test_new_lists_each_time(self):
        clauses = [(("or", [LEAF, ("maker", "fork", [FORK, None])]), "a"), (("maker", "fork", [LEAF, None]), "b")]
        kept = deepcopy(clauses)
        first = table(GARDEN, "tree", clauses)
        told = deepcopy(first)
        for lines in first.values():
            for line in lines:
                for pattern in line:
                    if pattern is not None and pattern[0] == "maker":
                        pattern[2].append("spoilt")
                line.append("spoilt")
            lines.append("spoilt")
        assert_same(self, table(GARDEN, "tree", clauses), told)
        assert_same(self, clauses, kept)

    def test_told_tables_may_be_passed_with_more_lines(self):
        clauses = [(None, "a")]
        told = {kind: lines + lines for kind, lines in table(MIXED, "term", clauses).items()}
        self.assertIs(check_table(MIXED, "term", clauses, told), True)


class Checks(unittest.TestCase):
    def assert_checked(self, kinds, kind, clauses, lines, expected):
        kept = repr((kinds, clauses, lines))
        self.assertIs(check_table(kinds, kind, clauses, lines), expected, lines)
        self.assertIs(check_table(turned(kinds), kind, clauses, turned(lines)), expected, lines)
        self.assertIs(plain_check_table(kinds, kind, clauses, lines), expected, lines)
        self.assertEqual(repr((kinds, clauses, lines)), kept)

    def assert_bush(self, lines, expected, words=((),), clauses=((None, "a"),)):
        self.assert_checked(BUSH, "bush", list(clauses), {"bush": lines, "word": [list(line) for line in words]},
                            expected)

    def assert_row(self, lines, expected, cells=((),), patterns=(None,)):
        told = {"list": lines, "small": [list(line) for line in cells], "tree": [[]]}
        self.assert_checked(GARDEN, "list", [(pattern, "a") for pattern in patterns], told, expected)

    def test_lines_left_out_and_put_in(self):
        for kind, lines in LINES.items():
            for at in range(len(lines)):
                self.assert_checked(GARDEN, "list", BOTH, {**LINES, kind: lines[:at] + lines[at + 1:]}, False)
            self.assert_checked(GARDEN, "list", BOTH, {**LINES, kind: lines + lines}, True)
            self.assert_checked(GARDEN, "list", BOTH, {**LINES, kind: lines[::-1]}, True)
            self.assert_checked(GARDEN, "list", BOTH, {**LINES, kind: []}, False)
        self.assert_checked(GARDEN, "list", BOTH, {**LINES, "small": [[], [("from", 9, 9)]]}, True)
        self.assert_checked(GARDEN, "list", BOTH, {**LINES, "tree": [[], [LEAF, FORK]]}, True)
        self.assert_checked(GARDEN, "list", BOTH, {**LINES, "list": LINES["list"] + [[]]}, False)
        self.assert_checked(GARDEN, "list", BOTH, {**LINES, "list": LINES["list"] + [[None]]}, False)

    def test_random_changes(self):
        for seed in range(50):
            random = Random(seed)
            kinds = any_kinds(random)
            kind = random.choice(sorted(kinds))
            clauses = any_clauses(random, kinds, kind, 2) + [(None, "rest")]
            told = table(kinds, kind, clauses)
            for _ in range(6):
                lines = deepcopy(told)
                for _ in range(random.randint(1, 2)):
                    change_lines(random, kinds, lines, False)
                expected = plain_check_table(kinds, kind, clauses, lines)
                with self.subTest(seed=seed, lines=lines):
                    self.assertIs(check_table(kinds, kind, clauses, lines), expected)

    def test_numbers_and_words(self):
        clauses = [(("from", None, 1), "a"), (("from", 2, None), "b")]
        kinds = {"small": ("numbers", 1, 3)}
        low, high = ("from", None, 1), ("from", 2, None)
        for lines, expected in (([[low], [high]], True), ([[low, high]], False),
                                ([[low], [high, ("from", 3, 3)]], False),
                                ([[low, ("from", 1, 5)], [high, None]], True), ([[low]], False), ([], False),
                                ([[low], [high], [low, high]], True), ([[low], [high], [None]], False)):
            self.assert_checked(kinds, "small", clauses, {"small": lines}, expected)
        kinds = {"word": ("words", ["x", "y"])}
        each = [(("word", "x"), "a"), (("or", [("word", "y")]), "b")]
        for lines, expected in (([[("word", "x")], [("or", [("word", "y")])]], True), ([[("word", "x")]], False),
                                ([[("word", "x")], [("word", "y")]], False), ([[("word", "x"), ("word", "y")]], False),
                                ([[("word", "x"), None], [("or", [("word", "y")]), ("word", "y")]], True)):
            self.assert_checked(kinds, "word", each, {"word": lines}, expected)

    def test_great_ranges(self):
        kinds = {"n": ("numbers", 0, 10 ** 24)}
        for bound in (10 ** 20, 10 ** 20 + 1):
            lines = {"n": [[("from", None, 10 ** 20 - 1), None], [("from", bound, None), None]]}
            self.assertIs(check_table(kinds, "n", [(None, "a")], lines), bound == 10 ** 20)

    def test_lines_have_a_pattern_that_is_equal_to_that_of_a_clause(self):
        either = ("or", [LEAF, FORK])
        lines = {"tree": [[LEAF], [FORK]], "list": [[]], "small": [[]]}
        self.assert_checked(GARDEN, "tree", [(LEAF, "a"), (FORK, "b")], lines, True)
        # Each line grants the "or", but does not hold it.
        self.assert_checked(GARDEN, "tree", [(either, "a")], lines, False)
        self.assert_checked(GARDEN, "tree", [(either, "a")], {**lines, "tree": [[LEAF, either], [either]]}, True)
        self.assert_checked(GARDEN, "tree", [(("or", [FORK, LEAF]), "a")], {**lines, "tree": [[either]]}, False)
        self.assert_checked(GARDEN, "tree", [(None, "a")], {**lines, "tree": [[]]}, False)
        self.assert_checked(GARDEN, "tree", [(None, "a")], {**lines, "tree": [[None]]}, True)
        self.assert_checked(GARDEN, "tree", [], {**lines, "tree": [[None]]}, False)
        self.assert_checked(GARDEN, "tree", [], {**lines, "tree": []}, False)
        self.assert_row([[None]], True)
        self.assert_row([[("gap", [], [])]], False)
        self.assert_row([[("gap", [], [])]], True, patterns=[("gap", [], [])])
        # The same form, not the same values.
        self.assert_checked(GARDEN, "small", [(None, "a")], {"tree": [[]], "list": [[]], "small": [[("from", 1, 3)]]},
                            False)

    def test_makers(self):
        self.assert_bush([[None]], True)
        self.assert_bush([[None, NIL]], False)
        self.assert_bush([[None, NIL], [None, TWO]], False)
        self.assert_bush([[None, NIL], [None, TWO], [None, BUD]], True)
        self.assert_bush([[None, ("or", [NIL, TWO])], [None, BUD]], True)
        self.assert_bush([[None, ("or", [NIL, ("or", [TWO, BUD])])]], True)
        self.assert_bush([[None, NIL, TWO], [None, BUD]], False)
        bud = ("maker", "bud", [("word", "x")])
        self.assert_bush([[None, NIL], [None, TWO], [None, bud]], False)
        self.assert_bush([[None, NIL], [None, TWO], [None, bud]], False, words=[[("word", "x")], [("word", "y")]])
        self.assert_bush([[None, NIL], [None, TWO], [None, bud], [None, ("maker", "bud", [("word", "y")])]], True,
                         words=[[("word", "x")], [("word", "y")]])
        self.assert_bush([[None, NIL], [None, TWO], [None, ("maker", "bud", [("or", [("word", "y"), None])])]], True)

    def test_two_parts_of_one_kind_may_have_different_lines(self):
        nils = ("maker", "two", [NIL, NIL])
        self.assert_bush([[None, NIL], [None, BUD], [None, nils]], False)
        rest = [("maker", "two", [NIL, ("or", [BUD, TWO])]), ("maker", "two", [("or", [BUD, TWO]), None])]
        lines = [[None, NIL], [None, BUD], [None, nils, TWO], [None, rest[0], TWO], [None, rest[1], TWO]]
        # Without TWO, ("or", [BUD, TWO]) is not granted where a part is of two parts itself.
        self.assert_bush(lines, True)
        self.assert_bush([line[:2] for line in lines], False)
        self.assert_bush(lines[:3] + lines[4:], False)
        self.assert_bush([[None, NIL], [None, BUD], [None, ("maker", "two", [NIL, None])], [None, TWO]], True)

    def test_what_a_line_grants(self):
        kinds = {"top": ("makers", [("top", ["leaf"])]), "leaf": ("makers", [("p", []), ("q", []), ("r", [])])}
        one, two, three = (("maker", maker, []) for maker in "pqr")
        inner = ("or", [two, three])
        whole = ("or", [one, inner])
        for pattern, lines, expected in (
                (whole, [[whole]], True), (whole, [[one], [inner]], True), (whole, [[one], [two], [three]], True),
                (whole, [[one], [("or", [three, two])]], False), (whole, [[("or", [one, two, three])]], False),
                (whole, [[]], False), (None, [[]], True), (("or", [one, None]), [[]], True), (one, [[whole]], False),
                (whole, [[one, None], [("or", [inner])]], False), (("or", [whole, ("or", [inner])]), [[whole]], True),
                (("or", [one, ("or", [inner])]), [[one], [inner]], True), (inner, [[two], [three], [one]], False)):
            clauses = [(("maker", "top", [pattern]), "a")]
            told = {"top": [[clauses[0][0]]], "leaf": lines}
            self.assert_checked(kinds, "top", clauses, told, expected)

    def test_rows(self):
        empty, some, two = ("row", []), ("gap", [None], []), ("gap", [None, None], [])
        one = ("row", [None])
        self.assert_row([[None, empty]], False)
        self.assert_row([[None, empty], [None, some]], True)
        self.assert_row([[None, empty], [None, one], [None, two]], False)
        # A row of one cell is not said to have some.
        self.assert_row([[None, empty], [None, one], [None, two, some]], False)
        self.assert_row([[None, empty], [None, one, some], [None, two, some]], True)
        self.assert_row([[None, some]], False)
        self.assert_row([[None, ("gap", [], [])]], True)
        self.assert_row([[None, ("or", [empty, some])]], True)
        self.assert_row([[None, ("or", [empty, one])]], False)

    def test_the_first_cell(self):
        low, high = ("from", None, 1), ("from", 2, None)
        cells = [[low], [high]]
        lines = [[None, ("row", [])], [None, ("gap", [low], [])], [None, ("gap", [high], [])]]
        self.assert_row(lines, True, cells=cells)
        self.assert_row(lines, False)
        self.assert_row(lines[:2], False, cells=cells)
        self.assert_row(lines, True, cells=[[low, None], [high], [high, low]])
        self.assert_row(lines, False, cells=[[low], [("from", 2, 3)]])
        self.assert_row(lines, False, cells=cells + [[]])

    def test_the_last_cells(self):
        low, high = ("from", None, 1), ("from", 2, None)
        cells = [[low], [high]]
        ends = [("gap", [], [low]), ("gap", [], [high])]
        lines = [[None, ("row", [])], [None, ends[0]], [None, ends[1]]]
        self.assert_row(lines, True, cells=cells)
        self.assert_row(lines[:2], False, cells=cells)
        self.assert_row(lines[1:], False, cells=cells)
        two = ("gap", [], [low, high])
        told = [[None, ("row", [])], [None, ends[0], ("row", [low])], [None, ends[1], ("row", [high])],
                [None, ends[0]], [None, ends[1]], [None, two, ends[1]]]
        self.assert_row(told, True, cells=cells)
        self.assert_row([[None, ("row", [])], [None, two]], False, cells=cells)
        either = ("or", [("row", []), ("row", [None]), two, ("gap", [], [None, low]), ("gap", [], [high, None])])
        self.assert_row([[None, either]], False, cells=cells)

    def test_a_gap_with_patterns_on_both_sides(self):
        low, high = ("from", None, 1), ("from", 2, None)
        cells = [[low], [high]]
        around = ("gap", [low], [high])
        last = [[None, ("row", [])], [None, ("gap", [], [high])], [None, ("gap", [], [low])]]
        self.assert_row(last + [[None, around, ("gap", [], [high])]], True, cells=cells)
        self.assert_row([line + [around] for line in last], False, cells=cells)

    def test_kinds_that_the_clauses_do_not_hold(self):
        told = {"tree": [[LEAF], [FORK]], "list": [[]], "small": [[]]}
        clauses = [(LEAF, "a"), (FORK, "b")]
        self.assert_checked(GARDEN, "tree", clauses, told, True)
        for lines, expected in (([[None]], True), ([[("row", [])]], False), ([], False), ([[("row", [])], []], True)):
            self.assert_checked(GARDEN, "tree", clauses, {**told, "list": lines}, expected)
        self.assert_checked(GARDEN, "list", BOTH, {**LINES, "tree": [[LEAF]]}, False)
        self.assert_checked(GARDEN, "list", BOTH, {**LINES, "small": [[("from", 1, 2)]]}, False)


class AnyObject(unittest.TestCase):
    def test_what_is_no_table(self):
        deep = []
        for _ in range(500):
            deep = [deep]
        whole = {"tree": [[None]], "list": [[]], "small": [[]]}
        for odd in [odd for odd in ODD_OBJECTS if odd != [[]]] + [deep, list(whole), tuple(whole.items())]:
            self.assertIs(check_table(GARDEN, "tree", [(None, "a")], odd), False)
            for kind in whole:
                self.assertIs(check_table(GARDEN, "tree", [(None, "a")], {**whole, kind: odd}), False, odd)
                if odd != [] and odd != [None]:
                    self.assertIs(check_table(GARDEN, "tree", [(None, "a")], {**whole, kind: whole[kind] + [odd]}),
                                  False, odd)
                if odd is not None and odd != ("or", [None]):
                    more = {**whole, kind: whole[kind] + [[None, odd]]}
                    self.assertIs(check_table(GARDEN, "tree", [(None, "a")], more), False, odd)

    def test_just_the_kinds_are_keys(self):
        whole = {"tree": [[None]], "list": [[]], "small": [[]]}
        self.assertIs(check_table(GARDEN, "tree", [(None, "a")], whole), True)
        for kind in whole:
            less = {key: lines for key, lines in whole.items() if key != kind}
            self.assertIs(check_table(GARDEN, "tree", [(None, "a")], less), False)
            for other in ("word", "", None, 1, True, (kind,)):
                self.assertIs(check_table(GARDEN, "tree", [(None, "a")], {**less, other: [[]]}), False)
                self.assertIs(check_table(GARDEN, "tree", [(None, "a")], {**whole, other: [[]]}), False)

    def test_tuples_are_no_lists(self):
        whole = {"tree": [[None]], "list": [[]], "small": [[]]}
        for wrong in ({**whole, "tree": ([None],)}, {**whole, "tree": [(None,)]}, {**whole, "list": ()},
                      {**whole, "list": [()]}, {**whole, "list": [[("row", ())]]},
                      {**whole, "list": [[["row", []]], []]},
                      {**whole, "small": [[], [["from", 1, 2]]]}, {**whole, "small": [[], [("from", 1, True)]]},
                      {**whole, "tree": [[None], [("maker", "leaf", (None,))]]}):
            self.assertIs(check_table(GARDEN, "tree", [(None, "a")], wrong), False)

    def test_patterns_of_the_very_kind(self):
        whole = {"tree": [[None]], "list": [[]], "small": [[]]}
        for kind, pattern in (("tree", ("from", 1, 2)), ("list", LEAF), ("small", ("row", [])),
                              ("small", ("word", "a")), ("tree", ("maker", "leaf", [LEAF]))):
            wrong = {**whole, kind: whole[kind] + [[None, pattern]]}
            self.assertIs(check_table(GARDEN, "tree", [(None, "a")], wrong), False)

    def test_a_sheet_is_no_table(self):
        pages = {"tree": [[(None, True)]], "list": [[]], "small": [[]]}
        self.assertIs(check_table(GARDEN, "tree", [(None, "a")], pages), False)


if __name__ == "__main__":
    unittest.main()
