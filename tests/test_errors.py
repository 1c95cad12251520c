import unittest

from inkmelt import errors

NAMES = ("TooMany", "BadRule", "BadShape", "BadNumber", "NoPlace", "NoNote")


class ErrorClasses(unittest.TestCase):
    def test_ink_error_is_straight_under_value_error(self):
        self.assertEqual(errors.InkError.__bases__, (ValueError,))

    def test_each_refusal_is_straight_under_ink_error(self):
        for name in NAMES:
            with self.subTest(name):
                self.assertEqual(getattr(errors, name).__bases__, (errors.InkError,))

    def test_each_refusal_is_a_class_of_its_own(self):
        self.assertEqual(len({getattr(errors, name) for name in NAMES}), len(NAMES))

    def test_refusals_carry_words(self):
        for name in NAMES:
            with self.subTest(name):
                self.assertEqual(str(getattr(errors, name)("words")), "words")


if __name__ == "__main__":
    unittest.main()
