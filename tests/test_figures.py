import unittest

from attachhall.figures import number_of, numbers_of


class FiguresTest(unittest.TestCase):
    def test_numbers(self):
        for text, number in [("0", 0), ("7", 7), ("10", 10), ("999999", 999999)]:
            with self.subTest(text=text):
                self.assertEqual(number_of(text, 6), number)

    def test_other_texts(self):
        for text in ["", "00", "01", "1000000", "-1", "+1", " 1", "1 ", "a", "\u00b2", "\u0663", "9" * 5000]:
            with self.subTest(text=text):
                self.assertIsNone(number_of(text, 6))
                self.assertIsNone(numbers_of(["1", text], 6))

    def test_several(self):
        self.assertEqual(numbers_of([], 2), [])
        self.assertEqual(numbers_of(["0", "12"], 2), [0, 12])
        self.assertIsNone(numbers_of(["0", "123"], 2))
