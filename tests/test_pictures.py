import unittest

from attachhall.errors import BadSize
from attachhall.pictures import view


class PiecesTest(unittest.TestCase):
    def test_no_rows_show_the_line_alone(self):
        self.assertEqual(view([], "", 2, 1), ["> "])
        self.assertEqual(view([], "", 40, 20), ["> "])
        self.assertEqual(view([], "abc", 10, 5), ["> abc"])

    def test_an_empty_row_is_one_empty_piece(self):
        self.assertEqual(view([""], "", 5, 5), ["", "> "])
        self.assertEqual(view(["", "a", ""], "", 2, 5), ["", "a", "", "> "])

    def test_a_row_that_just_fits_and_one_sign_shorter_or_longer(self):
        self.assertEqual(view(["abc"], "", 4, 9), ["abc", "> "])
        self.assertEqual(view(["abcd"], "", 4, 9), ["abcd", "> "])
        self.assertEqual(view(["abcde"], "", 4, 9), ["abcd", "e", "> "])

    def test_a_row_of_several_pieces(self):
        self.assertEqual(view(["abcdefg"], "", 4, 9), ["abcd", "efg", "> "])
        self.assertEqual(view(["abcdefgh"], "", 4, 9), ["abcd", "efgh", "> "])
        self.assertEqual(view(["abcdefghi"], "", 4, 9), ["abcd", "efgh", "i", "> "])

    def test_a_line_that_just_fits_and_one_sign_shorter_or_longer(self):
        self.assertEqual(view([], "a", 4, 9), ["> a"])
        self.assertEqual(view([], "ab", 4, 9), ["> ab"])
        self.assertEqual(view([], "abc", 4, 9), ["> ab", "c"])
        self.assertEqual(view([], "abcdefg", 4, 9), ["> ab", "cdef", "g"])

    def test_the_mark_alone_fills_the_narrowest_picture(self):
        self.assertEqual(view([], "", 2, 9), ["> "])
        self.assertEqual(view([], "a", 2, 9), ["> ", "a"])
        self.assertEqual(view([], "abc", 2, 9), ["> ", "ab", "c"])

    def test_blanks_stay(self):
        self.assertEqual(view(["a  ", "  b"], " c ", 3, 9), ["a  ", "  b", ">  ", "c "])

    def test_any_signs_are_cut_alike(self):
        self.assertEqual(view(["> a|B.\n"], "", 3, 9), ["> a", "|B.", "\n", "> "])


class HeightTest(unittest.TestCase):
    def test_fewer_as_many_and_more_pieces_than_high(self):
        rows = ["one", "two"]
        self.assertEqual(view(rows, "x", 5, 4), ["one", "two", "> x"])
        self.assertEqual(view(rows, "x", 5, 3), ["one", "two", "> x"])
        self.assertEqual(view(rows, "x", 5, 2), ["two", "> x"])
        self.assertEqual(view(rows, "x", 5, 1), ["> x"])

    def test_the_top_may_begin_within_a_row(self):
        self.assertEqual(view(["abcdef"], "xy", 2, 3), ["ef", "> ", "xy"])
        self.assertEqual(view(["abcdef"], "xyz", 2, 2), ["xy", "z"])

    def test_the_highest(self):
        rows = [f"row {number}" for number in range(40)]
        self.assertEqual(view(rows, "", 40, 20), rows[-19:] + ["> "])


class SizeTest(unittest.TestCase):
    def test_the_outermost_sizes(self):
        rows = ["a" * 41]
        self.assertEqual(view(rows, "", 40, 20), ["a" * 40, "a", "> "])
        self.assertEqual(view(rows, "", 40, 1), ["> "])
        self.assertEqual(view(rows, "", 2, 20), ["aa"] * 18 + ["a", "> "])
        self.assertEqual(view(rows, "", 2, 1), ["> "])

    def test_sizes_beyond(self):
        for wide, high in [(1, 1), (41, 1), (2, 0), (2, 21), (1, 20), (41, 20), (40, 0),
                           (40, 21), (0, 5), (-2, 5), (5, -1), (1, 0), (41, 21),
                           (10 ** 19, 5), (5, 10 ** 19), (-(10 ** 19), 5)]:
            with self.subTest(wide=wide, high=high):
                with self.assertRaises(BadSize):
                    view(["a"], "b", wide, high)

    def test_true_and_false_are_no_sizes(self):
        for wide, high in [(True, 5), (False, 5), (5, True), (5, False), (True, True), (False, 0), (0, False)]:
            with self.subTest(wide=wide, high=high):
                with self.assertRaises(BadSize):
                    view(["a"], "b", wide, high)
        self.assertEqual(view(["a"], "b", 5, 1), ["> b"])


class ListsTest(unittest.TestCase):
    def test_the_list_handed_in_stays(self):
        rows = ["abcdef", "", "g"]
        view(rows, "h", 3, 2)
        self.assertEqual(rows, ["abcdef", "", "g"])

    def test_the_list_told_may_be_changed(self):
        rows = ["ab", ""]
        told = view(rows, "c", 9, 9)
        told[0] = "x"
        told.clear()
        self.assertEqual(rows, ["ab", ""])
        self.assertEqual(view(rows, "c", 9, 9), ["ab", "", "> c"])

    def test_what_was_told_stays_when_the_rows_change(self):
        rows = ["ab"]
        told = view(rows, "c", 9, 9)
        rows.append("de")
        self.assertEqual(told, ["ab", "> c"])
