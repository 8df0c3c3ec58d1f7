"""Promise 0.4 and the interface of likewise.errors."""

import unittest

from likewise import errors

OF_A_TEXT = ("BadRow", "BadPages", "BadState", "BadDeed", "Unknown", "NothingLeft", "TooMany")
OF_A_NUMBER = ("BadPiece", "BadBook", "BadText")


def made(name):
    """One refusal of that name, made as the interface says."""
    return getattr(errors, name)(7 if name in OF_A_NUMBER else "some words")


class Refusals(unittest.TestCase):
    def test_each_is_straight_under_like_error(self):
        self.assertEqual(errors.LikeError.__bases__, (ValueError,))
        for name in OF_A_TEXT + OF_A_NUMBER:
            with self.subTest(name):
                self.assertEqual(getattr(errors, name).__bases__, (errors.LikeError,))

    def test_each_is_taken_as_like_error_and_value_error(self):
        for name in OF_A_TEXT + OF_A_NUMBER:
            for taken in (errors.LikeError, ValueError):
                with self.subTest(name, taken=taken), self.assertRaises(taken):
                    raise made(name)

    def test_none_is_another_one(self):
        for name in OF_A_TEXT + OF_A_NUMBER:
            for other in OF_A_TEXT + OF_A_NUMBER:
                with self.subTest(name, other=other):
                    self.assertEqual(isinstance(made(name), getattr(errors, other)), name == other)

    def test_the_three_of_a_number_keep_it(self):
        for name in OF_A_NUMBER:
            for number in (-1, 0, 1, 60, 10 ** 59):
                with self.subTest(name, number=number):
                    self.assertEqual(getattr(errors, name)(number).row, number)

    def test_those_of_a_text_show_it(self):
        for name in OF_A_TEXT:
            with self.subTest(name):
                self.assertEqual(str(made(name)), "some words")


if __name__ == "__main__":
    unittest.main()
