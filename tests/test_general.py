"""Promises 1 to 3 and the errors of promise 5 for the functions: arguments, wrong ones, limits."""

import inspect
import unittest
from copy import deepcopy

from firstclause import clauses, values
from firstclause.errors import InvalidClauses, InvalidKind, InvalidKinds, InvalidNumber, InvalidPattern, InvalidSize
from firstclause.errors import InvalidValue
from tests.support import GARDEN, MIXED, ODD_OBJECTS, assert_each_wrong, assert_same

VALUES = {
    "is_value": ["kinds", "kind", "value"],
    "size_of": ["kinds", "kind", "value"],
    "count_values": ["kinds", "kind", "size"],
    "nth_value": ["kinds", "kind", "size", "number"],
    "place": ["kinds", "kind", "value"],
}
CLAUSES = {
    "fits": ["kinds", "kind", "pattern", "value"],
    "taker": ["kinds", "kind", "clauses", "value"],
    "label": ["kinds", "kind", "clauses", "value"],
}
LEAF = ("maker", "leaf", [("from", 2, None)])
GOOD = {
    "kinds": GARDEN, "kind": "tree", "value": ("fork", ("leaf", 1), ("leaf", 2)), "size": 5, "number": 3,
    "pattern": ("maker", "fork", [None, LEAF]), "clauses": [(LEAF, "leaf"), (None, "rest")],
}
NO_COUNTS = [None, True, False, -1, -10 ** 29, "", "1", [], [1], (), (1,), {}, {1: 1}, [[{}]]]
BAD = {
    "kinds": ODD_OBJECTS + [{"tree": ("makers", [("m", ["tree"])])}, {"tree": ("numbers", 2, 1)}],
    "kind": [odd for odd in ODD_OBJECTS if odd != "tree"] + ["fork", ["list"], {"list": 1}],
    "value": ODD_OBJECTS + [("leaf", 4), ("leaf", True), ("fork", ("leaf", 1)), ["leaf", 1], ("fork", ("leaf", 1), {}),
                            ("leaf", [1])],
    "size": NO_COUNTS,
    "number": NO_COUNTS,
    "pattern": [odd for odd in ODD_OBJECTS if odd not in (None, ("or", [None]))] + [
        ("maker", "leaf", (None,)), ("or", []), ("row", []), ("maker", "leaf", [{}])],
    "clauses": [odd for odd in ODD_OBJECTS if odd != []] + [[(None, "A")], ((None, "a"),), [[None, "a"]]],
}
ERRORS = {
    "kinds": InvalidKinds, "kind": InvalidKind, "value": InvalidValue, "size": InvalidSize, "number": InvalidNumber,
    "pattern": InvalidPattern, "clauses": InvalidClauses,
}
RESULTS = {
    "is_value": True, "size_of": 5, "count_values": 9, "nth_value": ("fork", ("leaf", 2), ("leaf", 1)), "place": 1,
    "fits": True, "taker": 1, "label": "rest",
}


def functions():
    """Each function of the interface that there is, with its parameters."""
    return [(getattr(module, name), listed[name])
            for module, listed in ((values, VALUES), (clauses, CLAUSES)) for name in listed]


class Arguments(unittest.TestCase):
    def test_each_function_is_defined_in_its_module_with_its_parameters(self):
        for module, listed in ((values, VALUES), (clauses, CLAUSES)):
            for name, parameters in listed.items():
                function = getattr(module, name)
                self.assertEqual((function.__module__, function.__name__), (module.__name__, name))
                self.assertEqual(list(inspect.signature(function).parameters), parameters)

    def test_by_position_and_by_name(self):
        for function, parameters in functions():
            expected = RESULTS[function.__name__]
            assert_same(self, function(*[GOOD[one] for one in parameters]), expected)
            assert_same(self, function(**{one: GOOD[one] for one in reversed(parameters)}), expected)

    def test_arguments_are_not_changed(self):
        good = deepcopy(GOOD)
        for function, parameters in functions():
            for _ in range(2):
                function(*[GOOD[one] for one in parameters])
        assert_same(self, GOOD, good)

    def test_each_call_returns_new_lists(self):
        for kind, size, number in (("args", 7, 40), ("term", 9, 77), ("args", 1, 0)):
            first = values.nth_value(MIXED, kind, size, number)
            kept = deepcopy(first)
            spoil(first)
            assert_same(self, values.nth_value(MIXED, kind, size, number), kept)

    def test_changing_an_argument_later_changes_nothing_returned_later(self):
        kinds, listed = deepcopy(GARDEN), deepcopy(GOOD["clauses"])
        values.count_values(kinds, "tree", 5)
        clauses.taker(kinds, "tree", listed, ("leaf", 1))
        kinds["tree"][1].pop()
        listed.pop()
        self.assertEqual(values.count_values(GARDEN, "tree", 5), 9)
        self.assertEqual(values.count_values(kinds, "tree", 5), 0)
        self.assertEqual(clauses.taker(GARDEN, "tree", GOOD["clauses"], ("leaf", 1)), 1)
        self.assertIsNone(clauses.taker(kinds, "tree", listed, ("leaf", 1)))


def spoil(value):
    """Change each list in a value."""
    for inner in value:
        if isinstance(inner, (list, tuple)):
            spoil(inner)
    if isinstance(value, list):
        value.append(None)


class WrongArguments(unittest.TestCase):
    def test_each_argument_wrong_alone_and_with_wrong_ones_behind(self):
        for function, parameters in functions():
            if function is not values.is_value:
                assert_each_wrong(self, function, [(GOOD[one], BAD[one], ERRORS[one]) for one in parameters])

    def test_is_value_takes_any_object_as_a_value(self):
        listed = [(GOOD[one], BAD[one], ERRORS[one]) for one in ("kinds", "kind")]
        for odd in BAD["value"]:
            self.assertIs(values.is_value(GARDEN, "tree", odd), False)
            assert_each_wrong(self, lambda kinds, kind, odd=odd: values.is_value(kinds, kind, odd), listed)

    def test_names_of_kinds_that_are_no_keys_of_these(self):
        for function, parameters in functions():
            for bad in ("word", "a" * 11, "TREE", ["tree"], ("tree",), {"tree": 1}):
                with self.assertRaises(InvalidKind) as caught:
                    function(**{**{one: GOOD[one] for one in parameters}, "kind": bad})
                self.assertIs(caught.exception.value, bad)


class Limits(unittest.TestCase):
    def test_whole_numbers_of_30_digits(self):
        kinds = {"a": ("numbers", -10 ** 30 + 1, 10 ** 30 - 1), "b": ("makers", [("m", ["a", "a"]), ("n", ["b", "b"])])}
        many = 2 * 10 ** 30 - 1
        assert_same(self, values.count_values(kinds, "a", 1), many)
        assert_same(self, values.nth_value(kinds, "b", 3, many * many - 1), ("m", 10 ** 30 - 1, 10 ** 30 - 1))
        self.assertIsNone(values.nth_value(kinds, "b", 3, many * many))
        assert_same(self, values.place(kinds, "b", ("m", 0, 0)), many * many // 2)
        self.assertIs(clauses.fits(kinds, "a", ("from", None, -10 ** 30), 0), False)

    def test_beyond_the_limits_no_error_is_raised(self):
        kinds = {"abcde"[at]: ("makers", [("m" + "abcdefg"[own], ["abcde"[at]] * own) for own in range(6)])
                 for at in range(5)}
        self.assertEqual(values.count_values(kinds, "c", 2), 1)
        self.assertEqual(values.place(kinds, "e", values.nth_value(kinds, "e", 40, 10 ** 15)), 10 ** 15)
        deep = []
        for _ in range(60):
            deep = [deep]
        nest = {"nest": ("rows", "nest")}
        self.assertEqual(values.size_of(nest, "nest", deep), 61)
        self.assertEqual(values.place(nest, "nest", deep), values.count_values(nest, "nest", 61) - 1)
        self.assertEqual(values.nth_value(nest, "nest", 61, values.count_values(nest, "nest", 61) - 1), deep)


if __name__ == "__main__":
    unittest.main()
