"""Module handsweeps.errors, and its continuation."""

import unittest

from handsweeps import errors
from handsweeps.errors import SweepError

FIELDS = {
    "InvalidRow": ("position",),
    "InvalidPlace": ("value",),
    "InvalidSize": ("value",),
    "InvalidLoad": ("value",),
    "InvalidWord": ("position",),
    "InvalidCut": ("value",),
    "InvalidStairs": ("position",),
    "InvalidCount": ("value",),
    "InvalidSweep": ("value",),
    "OverBudget": ("load",),
    "NothingToUndo": (),
    "LimitExceeded": ("limit",),
    "InvalidProfile": ("position",),
    "NotOfCount": ("load",),
    "InvalidRank": ("value",),
    "InvalidPrices": ("direction", "key"),
    "NotForSale": ("position",),
    "InvalidBudget": ("value",),
    "InvalidBatch": ("position",),
    "InvalidAnswer": ("value",),
    "Broken": ("load",),
    "OtherCount": (),
    "WrongRow": (),
    "NothingToAsk": (),
    "NothingForSale": (),
    "InvalidQuestion": ("value",),
}


def error_classes():
    return [(getattr(errors, name), fields) for name, fields in FIELDS.items()]


def new_values(fields):
    return [["a new list"] for _ in fields]


class ErrorClasses(unittest.TestCase):

    def test_the_module_has_these_classes_and_no_others(self):
        found = {name for name, value in vars(errors).items() if isinstance(value, type)}
        self.assertEqual(found, {"SweepError", *FIELDS})

    def test_base_classes(self):
        self.assertEqual(SweepError.__bases__, (ValueError,))
        for error, _ in error_classes():
            with self.subTest(error=error):
                self.assertEqual(error.__bases__, (SweepError,))
                self.assertEqual(error.__module__, "handsweeps.errors")

    def test_fields_by_position(self):
        for error, fields in error_classes():
            with self.subTest(error=error):
                values = new_values(fields)
                made = error(*values)
                for field, value in zip(fields, values):
                    self.assertIs(getattr(made, field), value)
                self.assertEqual(set(vars(made)), set(fields))

    def test_fields_by_name(self):
        for error, fields in error_classes():
            with self.subTest(error=error):
                values = new_values(fields)
                made = error(**dict(zip(reversed(fields), values)))
                for field, value in zip(reversed(fields), values):
                    self.assertIs(getattr(made, field), value)

    def test_missing_and_surplus_fields(self):
        for error, fields in error_classes():
            if fields:
                with self.subTest(error=error):
                    self.assertRaises(TypeError, error)
                    self.assertRaises(TypeError, error, *fields, 1)
                    self.assertRaises(TypeError, error, *fields[1:], other=1)

    def test_caught_by_its_own_class_and_by_the_base_classes_alone(self):
        classes = [error for error, _ in error_classes()]
        for error, fields in error_classes():
            made = error(*new_values(fields))
            for catcher in (error, SweepError, ValueError):
                with self.subTest(error=error, catcher=catcher):
                    with self.assertRaises(catcher) as caught:
                        raise made
                    self.assertIs(caught.exception, made)
            for other in classes:
                self.assertEqual(isinstance(made, other), other is error)


if __name__ == "__main__":
    unittest.main()
