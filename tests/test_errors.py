"""The classes of refusals."""

import unittest

from onceform import errors

NAMES = ("NoStatement", "NoPull", "NoForm", "NoLine", "NoName", "NoYesNo", "TooMany")


class Errors(unittest.TestCase):
    def test_any_refusal_is_a_value_error(self):
        self.assertEqual(errors.FormError.__bases__, (ValueError,))

    def test_each_class_is_straight_under_form_error(self):
        for name in NAMES:
            with self.subTest(name=name):
                self.assertEqual(getattr(errors, name).__bases__, (errors.FormError,))

    def test_no_class_is_under_another(self):
        for name in NAMES:
            for other in NAMES:
                if name != other:
                    with self.subTest(name=name, other=other):
                        self.assertFalse(issubclass(getattr(errors, name), getattr(errors, other)))

    def test_each_class_bears_its_own_name(self):
        for name in NAMES + ("FormError",):
            self.assertEqual(getattr(errors, name).__name__, name)

    def test_raised_with_words_and_taken_as_any_refusal(self):
        for name in NAMES:
            with self.subTest(name=name), self.assertRaises(errors.FormError) as taken:
                raise getattr(errors, name)("some words")
            self.assertEqual(str(taken.exception), "some words")


if __name__ == "__main__":
    unittest.main()
