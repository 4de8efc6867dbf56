import unittest

from attachhall import errors

NAMES = ["BadSize", "BadSign", "BadFields", "BadLook", "BadCount", "NoLook", "BadText"]


class ErrorsTest(unittest.TestCase):
    def test_hall_error_is_a_value_error(self):
        self.assertEqual(errors.HallError.__bases__, (ValueError,))

    def test_each_refusal_stands_right_under_hall_error(self):
        for name in NAMES:
            with self.subTest(name=name):
                refusal = getattr(errors, name)
                self.assertEqual(refusal.__bases__, (errors.HallError,))
                self.assertEqual(refusal.__name__, name)
                self.assertEqual(refusal.__module__, "attachhall.errors")

    def test_bad_sign_has_its_place(self):
        self.assertEqual(errors.BadSign(0).place, 0)
        self.assertEqual(errors.BadSign(7).place, 7)

    def test_bad_text_has_its_row(self):
        self.assertEqual(errors.BadText(0).row, 0)
        self.assertEqual(errors.BadText(12).row, 12)

    def test_each_is_caught_as_hall_error(self):
        for refusal in [errors.BadSize("x"), errors.BadSign(1), errors.BadFields("x"),
                        errors.BadLook("x"), errors.BadCount("x"), errors.NoLook("x"),
                        errors.BadText(1)]:
            with self.subTest(refusal=refusal):
                with self.assertRaises(errors.HallError):
                    raise refusal
