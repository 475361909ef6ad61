"""The error classes of the interface, and what each stands under."""

import unittest

from formshift.errors import NotRead, ShiftError, TooWide


class ErrorClasses(unittest.TestCase):
    def test_any_refusal_stands_under_value_error(self):
        self.assertEqual(ShiftError.__bases__, (ValueError,))

    def test_each_refusal_stands_under_shift_error_alone(self):
        self.assertEqual(TooWide.__bases__, (ShiftError,))
        self.assertEqual(NotRead.__bases__, (ShiftError,))

    def test_the_refusals_are_not_one_another(self):
        self.assertFalse(issubclass(TooWide, NotRead))
        self.assertFalse(issubclass(NotRead, TooWide))

    def test_each_is_raised_with_words_and_taken_as_any_refusal(self):
        for refusal in (ShiftError, TooWide, NotRead):
            for taken in (refusal, ShiftError, ValueError):
                with self.subTest(refusal=refusal, taken=taken):
                    with self.assertRaises(taken) as caught:
                        raise refusal("some words")
                    self.assertEqual(str(caught.exception), "some words")


if __name__ == "__main__":
    unittest.main()
