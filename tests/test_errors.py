"""The classes of refusals, as the interface lists them."""

import unittest

from mapwright import errors

NAMES = ("NoPattern", "NoMap", "TooMany", "NoSaying", "NoName", "BadNote")


class ErrorClasses(unittest.TestCase):
    def test_map_error_stands_straight_under_value_error(self):
        self.assertEqual(errors.MapError.__bases__, (ValueError,))

    def test_each_stands_straight_under_map_error(self):
        for name in NAMES:
            with self.subTest(name=name):
                self.assertEqual(getattr(errors, name).__bases__, (errors.MapError,))

    def test_none_stands_under_another(self):
        for name in NAMES:
            for other in NAMES:
                if name != other:
                    with self.subTest(name=name, other=other):
                        self.assertFalse(issubclass(getattr(errors, name), getattr(errors, other)))

    def test_made_with_a_text(self):
        for name in NAMES + ("MapError",):
            with self.subTest(name=name):
                self.assertEqual(str(getattr(errors, name)("some words")), "some words")

    def test_each_has_its_own_name(self):
        for name in NAMES + ("MapError",):
            with self.subTest(name=name):
                self.assertEqual(getattr(errors, name).__name__, name)


if __name__ == "__main__":
    unittest.main()
