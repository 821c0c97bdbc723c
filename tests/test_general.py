"""Promises 1 to 3 and the errors of promise 5 for the functions: arguments, wrong ones, limits."""

import inspect
import unittest
from copy import deepcopy

from firstclause import clauses, compare, counts, least, sheets, tables, values
from firstclause.errors import InvalidClauses, InvalidKind, InvalidKinds, InvalidNumber, InvalidPattern
from firstclause.errors import InvalidPosition, InvalidSize, InvalidValue
from tests.plain import turned
from tests.support import GARDEN, MIXED, NO_CLAUSES, NO_COUNTS, ODD_OBJECTS, assert_each_wrong, assert_same
from tests.support import spoil

VALUES = {
    "is_value": ["kinds", "kind", "value"],
    "size_of": ["kinds", "kind", "value"],
    "count_values": ["kinds", "kind", "size"],
    "nth_value": ["kinds", "kind", "size", "number"],
    "place": ["kinds", "kind", "value"],
}
CLAUSES = {
    "fits": ["kinds", "kind", "pattern", "value"],
    "taker": ["kinds", "kind", "clauses", "value"],
    "label": ["kinds", "kind", "clauses", "value"],
}
LEAST = {
    "least_missing": ["kinds", "kind", "clauses"],
    "least_taken": ["kinds", "kind", "clauses", "at"],
    "unreached": ["kinds", "kind", "clauses"],
    "total_missing": ["kinds", "kind", "clauses"],
    "total_taken": ["kinds", "kind", "clauses", "at"],
    "greater_missing": ["kinds", "kind", "clauses", "size"],
    "greater_taken": ["kinds", "kind", "clauses", "at", "size"],
}
COUNTS = {
    "count_missing": ["kinds", "kind", "clauses", "size"],
    "count_taken": ["kinds", "kind", "clauses", "at", "size"],
    "count_unlike": ["kinds", "kind", "one", "other", "size"],
    "nth_missing": ["kinds", "kind", "clauses", "size", "number"],
    "nth_taken": ["kinds", "kind", "clauses", "at", "size", "number"],
}
COMPARE = {
    "parting": ["kinds", "kind", "one", "other"],
    "swaps": ["kinds", "kind", "clauses"],
    "spare": ["kinds", "kind", "clauses"],
    "lean": ["kinds", "kind", "clauses"],
}
TABLES = {"table": ["kinds", "kind", "clauses"], "check_table": ["kinds", "kind", "clauses", "value"]}
SHEETS = {"sheet": ["kinds", "kind", "one", "other"], "check_sheet": ["kinds", "kind", "one", "other", "value"]}
MODULES = ((values, VALUES), (clauses, CLAUSES), (least, LEAST), (counts, COUNTS), (compare, COMPARE),
           (tables, TABLES), (sheets, SHEETS))
# Functions whose last argument may be any object.
ASKED = (values.is_value, tables.check_table, sheets.check_sheet)
LEAF = ("maker", "leaf", [("from", 2, None)])
GOOD = {
    "kinds": GARDEN, "kind": "tree", "value": ("fork", ("leaf", 1), ("leaf", 2)), "size": 5, "number": 3,
    "pattern": ("maker", "fork", [None, LEAF]), "clauses": [(LEAF, "leaf"), (None, "rest")], "at": 0,
    "one": [(LEAF, "leaf"), (None, "rest")], "other": [(("or", [LEAF]), "leaf"), (None, "rest")],
}
BAD = {
    "kinds": ODD_OBJECTS + [{"tree": ("makers", [("m", ["tree"])])}, {"tree": ("numbers", 2, 1)}],
    "kind": [odd for odd in ODD_OBJECTS if odd != "tree"] + ["fork", ["list"], {"list": 1}],
    "value": ODD_OBJECTS + [("leaf", 4), ("leaf", True), ("fork", ("leaf", 1)), ["leaf", 1], ("fork", ("leaf", 1), {}),
                            ("leaf", [1])],
    "size": NO_COUNTS,
    "number": NO_COUNTS,
    "pattern": [odd for odd in ODD_OBJECTS if odd not in (None, ("or", [None]))] + [
        ("maker", "leaf", (None,)), ("or", []), ("row", []), ("maker", "leaf", [{}])],
    "clauses": NO_CLAUSES,
    "one": NO_CLAUSES,
    "other": NO_CLAUSES,
    "at": NO_COUNTS + [2, 10 ** 20],
}
ERRORS = {
    "kinds": InvalidKinds, "kind": InvalidKind, "value": InvalidValue, "size": InvalidSize, "number": InvalidNumber,
    "pattern": InvalidPattern, "clauses": InvalidClauses, "one": InvalidClauses, "other": InvalidClauses,
    "at": InvalidPosition,
}
RESULTS = {
    "is_value": True, "size_of": 5, "count_values": 9, "nth_value": ("fork", ("leaf", 2), ("leaf", 1)), "place": 1,
    "fits": True, "taker": 1, "label": "rest", "least_missing": None, "least_taken": ("leaf", 2), "unreached": [],
    "total_missing": 0, "total_taken": 2, "greater_missing": None, "greater_taken": None,
    "count_missing": 0, "count_taken": 0, "count_unlike": 0, "nth_missing": None, "nth_taken": None,
    "parting": None, "swaps": [], "spare": [], "lean": [0, 1], "check_table": False, "check_sheet": False,
}


def functions():
    """Each function of the interface that there is, with its parameters."""
    return [(getattr(module, name), listed[name]) for module, listed in MODULES for name in listed]


class Arguments(unittest.TestCase):
    def test_each_function_is_defined_in_its_module_with_its_parameters(self):
        for module, listed in MODULES:
            for name, parameters in listed.items():
                function = getattr(module, name)
                self.assertEqual((function.__module__, function.__name__), (module.__name__, name))
                self.assertEqual(list(inspect.signature(function).parameters), parameters)

    def test_by_position_and_by_name(self):
        for function, parameters in functions():
            found = function(*[GOOD[one] for one in parameters])
            # Any table or sheet may be told.
            assert_same(self, found, RESULTS.get(function.__name__, found))
            assert_same(self, function(**{one: GOOD[one] for one in reversed(parameters)}), found)

    def test_arguments_are_not_changed(self):
        good = deepcopy(GOOD)
        for function, parameters in functions():
            for _ in range(2):
                function(*[GOOD[one] for one in parameters])
        assert_same(self, GOOD, good)

    def test_each_call_returns_new_lists(self):
        for kind, size, number in (("args", 7, 40), ("term", 9, 77), ("args", 1, 0)):
            first = values.nth_value(MIXED, kind, size, number)
            kept = deepcopy(first)
            spoil(first)
            assert_same(self, values.nth_value(MIXED, kind, size, number), kept)

    def test_equal_calls_return_equal_results(self):
        for function, parameters in functions():
            good = [GOOD[one] for one in parameters]
            found = function(*good)
            again = function(*[turned(one) if isinstance(one, dict) else deepcopy(one) for one in good])
            self.assertEqual(again, found)
            if isinstance(found, dict):
                assert_same(self, [again[kind] for kind in GARDEN], [found[kind] for kind in GARDEN])

    def test_changing_an_argument_later_changes_nothing_returned_later(self):
        kinds, listed = deepcopy(GARDEN), deepcopy(GOOD["clauses"])
        values.count_values(kinds, "tree", 5)
        clauses.taker(kinds, "tree", listed, ("leaf", 1))
        kinds["tree"][1].pop()
        listed.pop()
        self.assertEqual(values.count_values(GARDEN, "tree", 5), 9)
        self.assertEqual(values.count_values(kinds, "tree", 5), 0)
        self.assertEqual(clauses.taker(GARDEN, "tree", GOOD["clauses"], ("leaf", 1)), 1)
        self.assertIsNone(clauses.taker(kinds, "tree", listed, ("leaf", 1)))


def with_last(function, last):
    """A function that is passed an argument behind those that it gets."""
    def called(*arguments):
        return function(*arguments, last)

    return called


class WrongArguments(unittest.TestCase):
    def test_each_argument_wrong_alone_and_with_wrong_ones_behind(self):
        for function, parameters in functions():
            if function not in ASKED:
                assert_each_wrong(self, function, [(GOOD[one], BAD[one], ERRORS[one]) for one in parameters])

    def test_any_object_may_be_asked_for(self):
        for function, parameters in functions():
            if function in ASKED:
                for odd in BAD["value"]:
                    good = [GOOD[one] for one in parameters[:-1]]
                    self.assertIs(function(*good, odd), False)
                listed = [(GOOD[one], BAD[one], ERRORS[one]) for one in parameters[:-1]]
                for odd in (None, {}, [{}], GOOD["value"]):
                    assert_each_wrong(self, with_last(function, odd), listed)

    def test_names_of_kinds_that_are_no_keys_of_these(self):
        for function, parameters in functions():
            for bad in ("word", "a" * 11, "TREE", ["tree"], ("tree",), {"tree": 1}):
                with self.assertRaises(InvalidKind) as caught:
                    function(**{**{one: GOOD[one] for one in parameters}, "kind": bad})
                self.assertIs(caught.exception.value, bad)


class Limits(unittest.TestCase):
    def test_whole_numbers_of_30_digits(self):
        kinds = {"a": ("numbers", -10 ** 30 + 1, 10 ** 30 - 1), "b": ("makers", [("m", ["a", "a"]), ("n", ["b", "b"])])}
        many = 2 * 10 ** 30 - 1
        assert_same(self, values.count_values(kinds, "a", 1), many)
        assert_same(self, values.nth_value(kinds, "b", 3, many * many - 1), ("m", 10 ** 30 - 1, 10 ** 30 - 1))
        self.assertIsNone(values.nth_value(kinds, "b", 3, many * many))
        assert_same(self, values.place(kinds, "b", ("m", 0, 0)), many * many // 2)
        self.assertIs(clauses.fits(kinds, "a", ("from", None, -10 ** 30), 0), False)

    def test_lists_of_many_patterns(self):
        kinds = {"row": ("rows", "cell"), "cell": ("numbers", 0, 10 ** 20)}
        cells = [("from", at * 10 ** 18, (at + 20) * 10 ** 18) for at in range(60)]
        gaps = [("gap", cells[at:at + 2], cells[at + 2:at + 3]) for at in range(0, 18, 3)]
        rows = [("row", cells[at:at + 3]) for at in range(18, 60, 3)]
        some = [(("or", gaps[:3] + rows[:5]), "a"), (("or", gaps[3:] + rows[5:8]), "b"), (("or", rows[8:]), "c")]
        found = [least.least_missing(kinds, "row", some), least.greater_missing(kinds, "row", some, 12)]
        assert_same(self, found, [[], [0] * 12])
        assert_same(self, least.unreached(kinds, "row", some), [])
        counted = [counts.count_taken(kinds, "row", some, at, 12) for at in range(3)]
        missing = counts.count_missing(kinds, "row", some, 12)
        assert_same(self, sum(counted) + missing, values.count_values(kinds, "row", 12))
        assert_same(self, clauses.taker(kinds, "row", some, counts.nth_taken(kinds, "row", some, 1, 12, 10 ** 99)), 1)
        self.assertIsNone(counts.nth_missing(kinds, "row", some, 12, missing))
        whole = some + [(None, "d")]
        self.assertIs(tables.check_table(kinds, "row", whole, tables.table(kinds, "row", whole)), True)
        other = [some[0], (("or", rows[5:8] + gaps[3:]), "b"), *whole[2:], (None, "e")]
        self.assertIsNone(compare.parting(kinds, "row", whole, other))
        assert_same(self, [compare.parting(kinds, "row", some, whole), compare.lean(kinds, "row", whole)],
                    [[], [0, 1, 2, 3]])
        told = sheets.sheet(kinds, "row", whole, other)
        self.assertIs(sheets.check_sheet(kinds, "row", whole, other, told), True)

    def test_tables_and_sheets_of_many_lines(self):
        kinds = {**GARDEN, "word": ("words", ["x", "y"])}
        more = {"tree": [("maker", "leaf", [("from", at, None)]) for at in range(39)],
                "small": [("from", None, at) for at in range(39)], "word": [("or", [None] * at) for at in range(1, 40)],
                "list": [("row", [("from", None, at)]) for at in range(39)]}
        lines = {kind: [[None]] + [[None] + more[kind][at % 39:] + more[kind][:at % 39] for at in range(99)]
                 for kind in kinds}
        self.assertIs(tables.check_table(kinds, "tree", [(None, "a")], lines), True)
        pages = {kind: [[(pattern, True) for pattern in line] for line in lines[kind]] for kind in kinds}
        self.assertIs(sheets.check_sheet(kinds, "tree", [(None, "a")], [(None, "a")], pages), True)
        pages["tree"].append([])
        self.assertIs(sheets.check_sheet(kinds, "tree", [(("or", [None]), "a")], [(None, "a")], pages), True)
        self.assertIs(tables.check_table(kinds, "tree", [(None, "a")], {**lines, "tree": lines["tree"] + [[]]}), False)

    def test_beyond_the_limits_no_error_is_raised(self):
        kinds = {"abcde"[at]: ("makers", [("m" + "abcdefg"[own], ["abcde"[at]] * own) for own in range(6)])
                 for at in range(5)}
        self.assertEqual(values.count_values(kinds, "c", 2), 1)
        self.assertEqual(values.place(kinds, "e", values.nth_value(kinds, "e", 40, 10 ** 15)), 10 ** 15)
        deep = []
        for _ in range(60):
            deep = [deep]
        nest = {"nest": ("rows", "nest")}
        self.assertEqual(values.size_of(nest, "nest", deep), 61)
        self.assertEqual(values.place(nest, "nest", deep), values.count_values(nest, "nest", 61) - 1)
        self.assertEqual(values.nth_value(nest, "nest", 61, values.count_values(nest, "nest", 61) - 1), deep)


if __name__ == "__main__":
    unittest.main()
