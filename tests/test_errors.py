"""viewkin/errors.py: names, fields and base classes."""

import unittest

from viewkin import errors

WITH_PLACE = ["BadColours", "BadTies", "BadOrders", "BadText", "BadDeed"]
WITH_VALUE = ["BadPlace", "BadNumber", "BadOrder", "BadFolding"]
WITHOUT = ["Unlike", "Apart", "NothingLeft"]
ANY_VALUES = [None, True, 0, -5, 10 ** 999, "", "x", b"x", [], [1], (), (1, (2,)), {}, object(), len]


class Errors(unittest.TestCase):

    def test_fields_by_position_and_by_name(self):
        for field, names in (("place", WITH_PLACE), ("value", WITH_VALUE), ("most", ["TooGreat"])):
            for name in names:
                for value in ANY_VALUES:
                    with self.subTest(name=name, value=value):
                        error = getattr(errors, name)
                        self.assertIs(getattr(error(value), field), value)
                        self.assertIs(getattr(error(**{field: value}), field), value)

    def test_a_field_is_wanted(self):
        for name in WITH_PLACE + WITH_VALUE + ["TooGreat"]:
            with self.subTest(name=name):
                with self.assertRaises(TypeError):
                    getattr(errors, name)()

    def test_errors_without_fields(self):
        for name in WITHOUT:
            with self.subTest(name=name):
                self.assertEqual(vars(getattr(errors, name)()), {})

    def test_direct_base_classes(self):
        self.assertEqual(errors.WebError.__bases__, (ValueError,))
        self.assertEqual(errors.TooGreat.__bases__, (OverflowError,))
        for name in WITH_PLACE + WITH_VALUE + WITHOUT:
            with self.subTest(name=name):
                self.assertEqual(getattr(errors, name).__bases__, (errors.WebError,))

    def test_too_great_is_no_value_error(self):
        self.assertTrue(issubclass(errors.TooGreat, OverflowError))
        self.assertFalse(issubclass(errors.TooGreat, ValueError))
        self.assertFalse(issubclass(errors.TooGreat, errors.WebError))

    def test_caught_by_the_base_class(self):
        for name in WITH_PLACE + WITH_VALUE:
            with self.subTest(name=name):
                with self.assertRaises(errors.WebError):
                    raise getattr(errors, name)(3)
        for name in WITHOUT:
            with self.subTest(name=name):
                with self.assertRaises(errors.WebError):
                    raise getattr(errors, name)()

    def test_web_error_can_be_raised(self):
        with self.assertRaises(ValueError):
            raise errors.WebError()
        with self.assertRaises(OverflowError):
            raise errors.TooGreat(24)


if __name__ == "__main__":
    unittest.main()
