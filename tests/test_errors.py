import unittest

from checkrows import errors

NAMES = ["NoRow", "NoNumber", "NoFit", "NoDivisor", "NoStyle", "NoSheet", "NoPlace", "NoBack", "NoText", "NoWord"]


class Refusals(unittest.TestCase):
    def test_check_error_stands_directly_under_value_error(self):
        self.assertEqual(errors.CheckError.__bases__, (ValueError,))

    def test_each_refusal_stands_directly_under_check_error(self):
        for name in NAMES:
            with self.subTest(name):
                self.assertEqual(getattr(errors, name).__bases__, (errors.CheckError,))

    def test_the_refusals_are_ten_and_unlike(self):
        self.assertEqual(len({getattr(errors, name) for name in NAMES}), 10)
