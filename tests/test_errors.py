"""Tests of cornerturn.errors."""

import unittest

from cornerturn import errors
from samples import any_values

ATTRIBUTES = {
    "BadPlaces": "value",
    "BadTies": "value",
    "BadTie": "position",
    "NoPlace": "value",
    "BadPlan": "value",
    "BadPiece": "value",
    "HasGlue": "piece",
    "TooMany": "count",
    "BadMove": "value",
    "TooFar": "count",
    "BadText": "line",
}


class Errors(unittest.TestCase):
    def test_web_error_is_a_value_error(self):
        self.assertTrue(issubclass(errors.WebError, ValueError))

    def test_the_others_are_direct_subclasses(self):
        for name in ATTRIBUTES:
            with self.subTest(name):
                self.assertEqual(getattr(errors, name).__bases__, (errors.WebError,))

    def test_each_keeps_the_very_value(self):
        for name, attribute in ATTRIBUTES.items():
            for value in any_values():
                with self.subTest(name, value=repr(value)):
                    made = getattr(errors, name)(value)
                    self.assertIs(getattr(made, attribute), value)
                    self.assertEqual(vars(made), {attribute: value})

    def test_arguments_by_name(self):
        for name, attribute in ATTRIBUTES.items():
            with self.subTest(name):
                value = ["x"]
                made = getattr(errors, name)(**{attribute: value})
                self.assertIs(getattr(made, attribute), value)

    def test_each_takes_one_argument(self):
        for name in ATTRIBUTES:
            with self.subTest(name):
                with self.assertRaises(TypeError):
                    getattr(errors, name)()
                with self.assertRaises(TypeError):
                    getattr(errors, name)(1, 2)

    def test_each_is_caught_as_a_web_error(self):
        for name in ATTRIBUTES:
            with self.subTest(name):
                with self.assertRaises(errors.WebError):
                    raise getattr(errors, name)(None)
                with self.assertRaises(ValueError):
                    raise getattr(errors, name)(None)


if __name__ == "__main__":
    unittest.main()
