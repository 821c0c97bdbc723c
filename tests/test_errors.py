"""Promise 5: the classes of errors."""

import unittest

from firstclause import errors

WITH_FIELD = [
    "InvalidKinds", "InvalidKind", "InvalidValue", "InvalidSize", "InvalidNumber", "InvalidPattern", "InvalidClause",
    "InvalidClauses", "InvalidPosition",
]


class Derivation(unittest.TestCase):
    def test_clause_error_is_a_value_error(self):
        self.assertTrue(issubclass(errors.ClauseError, ValueError))

    def test_each_class_is_derived_from_clause_error_and_from_no_other_one(self):
        names = WITH_FIELD + ["NothingToUndo"]
        for name in names:
            made = getattr(errors, name)
            self.assertTrue(issubclass(made, errors.ClauseError), name)
            for other in names:
                if other != name:
                    self.assertFalse(issubclass(made, getattr(errors, other)), (name, other))

    def test_each_class_is_defined_in_its_module_under_its_name(self):
        for name in WITH_FIELD + ["ClauseError", "NothingToUndo"]:
            made = getattr(errors, name)
            self.assertEqual((made.__module__, made.__name__), ("firstclause.errors", name))


class Fields(unittest.TestCase):
    def test_field_by_position_is_the_very_object(self):
        for name in WITH_FIELD:
            for field in ([], {}, (1, [2]), "text", 0, True, None, 10 ** 5000, [[{}]]):
                self.assertIs(getattr(errors, name)(field).value, field, name)

    def test_field_by_name_is_the_very_object(self):
        for name in WITH_FIELD:
            for field in ([], {}, (1, [2]), "text", 0, False, None):
                self.assertIs(getattr(errors, name)(value=field).value, field, name)

    def test_field_that_is_not_given_is_none(self):
        for name in WITH_FIELD:
            self.assertIsNone(getattr(errors, name)().value, name)

    def test_classes_without_a_field_take_no_argument(self):
        self.assertIsInstance(errors.NothingToUndo(), errors.ClauseError)
        self.assertIs(type(errors.ClauseError()), errors.ClauseError)

    def test_each_one_can_be_raised_caught_and_shown(self):
        for name in WITH_FIELD:
            with self.assertRaises(ValueError) as caught:
                raise getattr(errors, name)(10 ** 5000)
            self.assertIsInstance(str(caught.exception), str)
            self.assertEqual(caught.exception.value, 10 ** 5000)


if __name__ == "__main__":
    unittest.main()
