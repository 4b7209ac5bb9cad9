"""Tests of driftstore.errors (point 1 and the interface)."""

import unittest

from driftstore import errors

WITH_FIELDS = {
    "BadMachine": ("part",),
    "BadProgram": ("index",),
    "BadLine": ("line", "place"),
    "TooMany": ("most",),
}
WITHOUT_FIELDS = ("BadInputs", "BadNumber", "BadMemory", "BadRows", "NoWay", "BadString")


class ErrorTests(unittest.TestCase):
    def test_store_error_stands_under_value_error(self):
        self.assertEqual(errors.StoreError.__bases__, (ValueError,))

    def test_all_errors_stand_under_store_error(self):
        for name in list(WITH_FIELDS) + list(WITHOUT_FIELDS):
            with self.subTest(name):
                error = getattr(errors, name)
                self.assertTrue(issubclass(error, errors.StoreError))
                self.assertEqual(error.__module__, "driftstore.errors")

    def test_no_error_stands_under_another_one(self):
        names = list(WITH_FIELDS) + list(WITHOUT_FIELDS)
        for name in names:
            for other in names:
                if name != other:
                    self.assertFalse(issubclass(getattr(errors, name), getattr(errors, other)))

    def test_fields_are_set_by_position_and_by_name(self):
        for name, fields in WITH_FIELDS.items():
            with self.subTest(name):
                values = [7 + k for k in range(len(fields))]
                by_position = getattr(errors, name)(*values)
                by_name = getattr(errors, name)(**dict(zip(fields, values)))
                for error in (by_position, by_name):
                    self.assertEqual([getattr(error, field) for field in fields], values)
                    self.assertEqual(sorted(vars(error)), sorted(fields))

    def test_a_field_may_be_none_or_a_word(self):
        self.assertIsNone(errors.BadProgram(None).index)
        self.assertEqual(errors.BadMachine("stir").part, "stir")

    def test_errors_with_fields_need_them(self):
        for name in WITH_FIELDS:
            with self.subTest(name):
                self.assertRaises(TypeError, getattr(errors, name))

    def test_the_others_have_no_fields(self):
        for name in WITHOUT_FIELDS:
            with self.subTest(name):
                self.assertEqual(vars(getattr(errors, name)()), {})

    def test_errors_can_be_caught_as_value_errors(self):
        for name in WITHOUT_FIELDS:
            with self.assertRaises(ValueError):
                raise getattr(errors, name)()
        with self.assertRaises(ValueError):
            raise errors.BadLine(1, 2)


if __name__ == "__main__":
    unittest.main()
