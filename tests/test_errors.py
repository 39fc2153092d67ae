"""Point 4: the classes of errors, their base classes and their fields."""

import inspect
import unittest

from spreadstates import errors
from tests.samples import FIELDS, endless, nested


class ErrorClasses(unittest.TestCase):
    def test_base_classes(self):
        self.assertEqual(errors.SpreadError.__bases__, (ArithmeticError,))
        for name in FIELDS:
            with self.subTest(name=name):
                self.assertEqual(getattr(errors, name).__bases__, (errors.SpreadError,))

    def test_classes_are_defined_in_their_file(self):
        for name in list(FIELDS) + ["SpreadError"]:
            with self.subTest(name=name):
                self.assertEqual(getattr(errors, name).__module__, "spreadstates.errors")
                self.assertEqual(getattr(errors, name).__name__, name)

    def test_fields_by_position_and_by_name(self):
        for name, field in FIELDS.items():
            value = ["any object"]
            with self.subTest(name=name):
                self.assertIs(getattr(getattr(errors, name)(value), field), value)
                self.assertIs(getattr(getattr(errors, name)(**{field: value}), field), value)
                self.assertEqual(vars(getattr(errors, name)(value)), {field: value})

    def test_fields_are_the_only_arguments(self):
        for name, field in FIELDS.items():
            with self.subTest(name=name):
                self.assertEqual(list(inspect.signature(getattr(errors, name)).parameters), [field])

    def test_errors_are_caught_by_the_base_classes_alone(self):
        for name in FIELDS:
            for base in (errors.SpreadError, ArithmeticError):
                with self.subTest(name=name), self.assertRaises(base):
                    raise getattr(errors, name)(1)
            for other in FIELDS:
                with self.subTest(name=name, other=other):
                    error = getattr(errors, name)(1)
                    self.assertEqual(isinstance(error, getattr(errors, other)), name == other)

    def test_base_class_can_be_raised(self):
        with self.assertRaises(ArithmeticError):
            raise errors.SpreadError()

    def test_any_object_as_symbol_or_call_can_be_shown(self):
        values = [nested(lambda value: [value]), nested(lambda value: (value,)), nested(lambda value: {0: value})]
        for value in values + [endless(), {1}, None, True]:
            for error in (errors.InvalidSymbol(value), errors.InvalidCall(value)):
                self.assertTrue(str(error))
                self.assertTrue(repr(error))

    def test_messages_tell_the_field(self):
        self.assertIn("17", str(errors.InvalidText(17)))
        self.assertIn("17", str(errors.InvalidSpread(17)))
        self.assertIn("17", str(errors.InvalidStream(17)))
        self.assertIn("17", str(errors.InvalidHeader(17)))
        self.assertIn("17", str(errors.LimitExceeded(17)))
        self.assertIn("numbers", str(errors.InvalidBound("numbers")))


if __name__ == "__main__":
    unittest.main()
