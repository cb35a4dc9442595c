"""Point [3]; promise 15 of the stage about layouts."""

import inspect
import unittest

from shuntplan import errors
from tests.samples import ANY_VALUES

CLASSES = {
    ValueError: {
        "InvalidName": "value", "InvalidEnd": "value", "InvalidRow": "value", "InvalidCoupling": "value",
        "InvalidLayout": "value", "InvalidOrder": "value", "InvalidExchange": "value", "InvalidNumber": "value",
        "InvalidBytes": "value", "InvalidFamily": "value", "InvalidDeed": "index", "OtherWagons": None,
        "ParseError": "offset",
    },
    LookupError: {"NoWagon": "name", "NotCoupled": "end", "PrimeStretch": "stretch", "MixedPaths": None},
    KeyError: {"Missing": "name", "Twice": "name"},
    OverflowError: {"TooLarge": "limit"},
    RuntimeError: {"AlreadyCoupled": "end", "NothingToUndo": None, "NothingToRedo": None},
}
ROWS = [(base, name, field) for base, fields in CLASSES.items() for name, field in fields.items()]


class ErrorTest(unittest.TestCase):
    def test_each_class_is_directly_below_the_named_error(self):
        for base, name, _ in ROWS:
            with self.subTest(name):
                self.assertEqual(getattr(errors, name).__bases__, (base,))
                self.assertEqual(getattr(errors, name).__module__, "shuntplan.errors")

    def test_there_are_no_other_classes(self):
        found = [name for name, _ in inspect.getmembers(errors, inspect.isclass)]
        self.assertEqual(sorted(found), sorted([name for _, name, _ in ROWS]))

    def test_fields_are_the_very_objects(self):
        for _, name, field in ROWS:
            for value in ANY_VALUES if field else []:
                with self.subTest(name, value=value):
                    made = getattr(errors, name)
                    self.assertIs(getattr(made(value), field), value)
                    self.assertIs(getattr(made(**{field: value}), field), value)
                    self.assertEqual(list(vars(made(value))), [field])

    def test_the_field_is_needed(self):
        for _, name, field in ROWS:
            with self.subTest(name):
                if field:
                    self.assertRaises(TypeError, getattr(errors, name))
                    self.assertRaises(TypeError, getattr(errors, name), 1, 2)
                else:
                    self.assertEqual(vars(getattr(errors, name)()), {})

    def test_errors_can_be_raised_and_caught_by_the_base(self):
        for base, name, field in ROWS:
            with self.subTest(name), self.assertRaises(base):
                raise getattr(errors, name)(*(["x"] if field else []))


if __name__ == "__main__":
    unittest.main()
