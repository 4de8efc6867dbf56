import unittest

from attachhall.bounds import is_number, is_within


class BoundsTest(unittest.TestCase):
    def test_numbers(self):
        for number in [0, 1, -1, 7, 10 ** 19, -(10 ** 19)]:
            with self.subTest(number=number):
                self.assertIs(is_number(number), True)

    def test_true_and_false_are_no_numbers(self):
        for wrong in [True, False]:
            with self.subTest(wrong=wrong):
                self.assertIs(is_number(wrong), False)
                self.assertIs(is_within(wrong, 0, 1), False)
                self.assertIs(is_within(wrong, -5, 5), False)

    def test_the_bounds_themselves_are_within(self):
        for number, within in [(1, False), (2, True), (3, True), (5, True), (6, False), (10 ** 19, False),
                               (-2, False), (-(10 ** 19), False)]:
            with self.subTest(number=number):
                self.assertIs(is_within(number, 2, 5), within)

    def test_of_none_nothing_is_within(self):
        for number in [-1, 0, 1]:
            with self.subTest(number=number):
                self.assertIs(is_within(number, 0, -1), False)
