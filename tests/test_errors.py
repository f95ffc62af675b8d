import unittest

from mowfloor import errors

NAMES = ["NoText", "NoFit", "TooMany", "Near", "NoBlocks", "NoBlock", "Here", "NoField"]


class Errors(unittest.TestCase):
    def test_mow_error_stands_straight_under_value_error(self):
        self.assertEqual(errors.MowError.__bases__, (ValueError,))

    def test_each_refusal_stands_straight_under_mow_error(self):
        for name in NAMES:
            self.assertEqual(getattr(errors, name).__bases__, (errors.MowError,), name)

    def test_none_stands_under_another_one(self):
        kinds = [getattr(errors, name) for name in NAMES]
        for one in kinds:
            self.assertEqual([other for other in kinds if issubclass(one, other)], [one])

    def test_each_is_made_with_a_text(self):
        for name in ["MowError"] + NAMES:
            with self.assertRaises(getattr(errors, name)) as caught:
                raise getattr(errors, name)("some words")
            self.assertEqual(str(caught.exception), "some words")
            self.assertIsInstance(caught.exception, ValueError)
            self.assertIsInstance(caught.exception, errors.MowError)

    def test_there_are_no_further_ones(self):
        kinds = [name for name, value in vars(errors).items() if isinstance(value, type)]
        self.assertEqual(sorted(kinds), sorted(["MowError"] + NAMES))
