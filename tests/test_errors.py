"""The interface: dialyard/errors.py."""

import unittest

from dialyard import errors
from helping import BESIDE

FIELDS = {"NoSun": "at", "NoYard": "name", "NotLit": "hour", "NoHour": "hour", "NoRow": "row"}


class TestErrors(unittest.TestCase):
    def test_yard_error_is_a_value_error(self):
        self.assertEqual(errors.YardError.__bases__, (ValueError,))

    def test_eleven_classes_stand_under_it_and_none_under_another(self):
        self.assertEqual(len(BESIDE), 11)
        for name, kind in BESIDE.items():
            self.assertTrue(issubclass(kind, errors.YardError), name)
            over = [other for other, what in BESIDE.items() if issubclass(kind, what)]
            self.assertEqual(over, [name])

    def test_those_without_fields_are_made_of_a_text(self):
        for name, kind in BESIDE.items():
            if name not in FIELDS:
                self.assertIn("some words", str(kind("some words")), name)
        self.assertIn("some words", str(errors.YardError("some words")))

    def test_those_with_fields_are_made_of_just_these(self):
        for name, field in FIELDS.items():
            for value in (None, 0, 7, 9999, -(10 ** 399), "gnomon"):
                error = BESIDE[name](value)
                self.assertEqual(getattr(error, field), value)
                self.assertIsInstance(str(error), str)
            with self.assertRaises(TypeError):
                BESIDE[name]()
            with self.assertRaises(TypeError):
                BESIDE[name](1, 2)

    def test_fields_are_the_objects_own(self):
        one = errors.NoHour(3)
        other = errors.NoHour(4)
        self.assertEqual((one.hour, other.hour), (3, 4))

    def test_each_is_taken_as_a_yard_error_with_its_field(self):
        for name, field in FIELDS.items():
            with self.assertRaises(errors.YardError) as caught:
                raise BESIDE[name](5)
            self.assertEqual(getattr(caught.exception, field), 5)


if __name__ == "__main__":
    unittest.main()
