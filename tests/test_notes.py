import unittest

from attachhall.errors import BadText
from attachhall.notes import read, written
from attachhall.worlds import played

KEYS = "abcdefghijklmnopqrstuvwxyz0123456789 <;"
# Steps of each word, and their rows.
ROWS = [
    (("come", 0, 1, 20, 5), "come 0 1 20 5"), (("come", 999999, 0, 0, 100000), "come 999999 0 0 100000"),
    (("press", 2, "say hi;"), "press 2 say hi;"), (("press", 0, ""), "press 0 "),
    (("press", 0, " "), "press 0  "), (("press", 10, "  a  "), "press 10   a  "),
    (("press", 123456, KEYS), "press 123456 " + KEYS), (("press", 3, "press 3 a"), "press 3 press 3 a"),
    (("press", 3, "7"), "press 3 7"), (("size", 3, 2, 1), "size 3 2 1"), (("leave", 0), "leave 0"),
    (("gone", 3), "gone 3"), (("beat",), "beat"), (("send",), "send"), (("carry", 3), "carry 3"),
    (("carry", 0), "carry 0"), (("lose", 10), "lose 10"), (("twice", 999999), "twice 999999"),
    (("cut", 0, 12), "cut 0 12"), (("settle",), "settle"),
]
NUMBERED = {"come": 4, "size": 3, "leave": 1, "gone": 1, "carry": 1, "lose": 1, "twice": 1, "cut": 2}
# Words that are no numbers of a row.
WRONG = ["", "00", "01", "007", "1234567", "0000001", "-1", "+1", "1.0", "a", "1a", "a1", "x", "?", "1_0", "\u00b2",
         "\u0663", "1\t", "1\r", "0x1"]


class WrittenTest(unittest.TestCase):
    def test_each_step(self):
        for step, row in ROWS:
            with self.subTest(step=step):
                self.assertEqual(written([step]), row)

    def test_no_steps(self):
        self.assertEqual(written([]), "")

    def test_a_line_end_between(self):
        self.assertEqual(written([step for step, _ in ROWS]), "\n".join(row for _, row in ROWS))
        self.assertEqual(written([("beat",), ("beat",), ("press", 0, "")]), "beat\nbeat\npress 0 ")

    def test_the_steps_handed_in_stay(self):
        steps = [step for step, _ in ROWS]
        kept = list(steps)
        written(steps)
        self.assertEqual(steps, kept)


class ReadTest(unittest.TestCase):
    def check_refused(self, text, row):
        with self.subTest(text=text):
            with self.assertRaises(BadText) as caught:
                read(text)
            self.assertEqual(caught.exception.row, row)

    def check_no_step(self, row):
        """A row that is none, alone, first, and behind and between others."""
        if row != "":
            self.check_refused(row, 0)
        self.check_refused(row + "\nbeat", 0)
        self.check_refused("beat\n" + row, 1)
        self.check_refused("beat\nsend\n" + row + "\nsettle\nwhat", 2)

    def test_each_step(self):
        for step, row in ROWS:
            with self.subTest(row=row):
                self.assertEqual(read(row), [step])

    def test_what_is_written(self):
        steps = [step for step, _ in ROWS]
        for many in range(len(steps) + 1):
            self.assertEqual(read(written(steps[:many])), steps[:many])
        self.assertEqual(read(written(steps[::-1] * 2)), steps[::-1] * 2)

    def test_no_steps(self):
        self.assertEqual(read(""), [])

    def test_what_is_read_may_be_changed_and_done(self):
        text = "come 0 0 20 5\npress 0 say hi;\nsettle"
        read(text).clear()
        self.assertEqual(len(read(text)), 3)
        self.assertEqual(played(1, read(text)).shown(), [(0, 1, ["> say hi", "hi", "> "], 9, 0)])

    def test_any_number_where_one_stands(self):
        for word, many in NUMBERED.items():
            for figures in ["0", "9", "10", "100000", "999999"]:
                with self.subTest(word=word, figures=figures):
                    self.assertEqual(read(" ".join([word] + [figures] * many)),
                                     [(word, *[int(figures)] * many)])

    def test_numbers_that_are_none(self):
        for word, many in NUMBERED.items():
            for at in range(many):
                for wrong in WRONG:
                    words = ["1"] * many
                    words[at] = wrong
                    self.check_no_step(" ".join([word] + words))
        for wrong in WRONG:
            self.check_no_step(f"press {wrong} a")

    def test_words_too_few_or_too_many(self):
        for word, many in [*NUMBERED.items(), ("beat", 0), ("send", 0), ("settle", 0)]:
            for other in range(7):
                if other != many:
                    self.check_no_step(" ".join([word] + ["1"] * other))
        self.check_no_step("press")
        self.check_no_step("press 1")

    def test_needless_blanks(self):
        for row in ["beat ", " beat", "beat  ", "carry  3", "carry 3 ", " carry 3", "cut 0  12", "cut  0 12", "cut 0 12 ",
                    " press 0 a", "press  0 a", "press  ", "press ", "come 0 1 20  5"]:
            self.check_no_step(row)

    def test_words_that_are_none(self):
        for row in ["", " ", "what", "Beat", "BEAT", "beats", "bea", "0", "come", "carry3", "carry,3", "press2 a",
                    "pressed 2 a", "beat\t", "beat\r", "\tbeat", "beat\x0b", "say hi;", "hear 0", "do"]:
            self.check_no_step(row)

    def test_signs_that_are_none(self):
        for sign in [chr(number) for number in range(256) if chr(number) not in KEYS + "\n"] + ["\u2028", "\u0663"]:
            for signs in [sign, "a" + sign, sign + "a", " " + sign]:
                self.check_no_step("press 0 " + signs)

    def test_empty_rows(self):
        self.check_refused("\n", 0)
        self.check_refused("\nbeat", 0)
        self.check_refused("beat\n", 1)
        self.check_refused("beat\n\nbeat", 1)
        self.check_refused("press 0 \n\n", 1)

    def test_the_first_row_that_is_none(self):
        self.check_refused("beat\ncarry x\nwhat\nbeat", 1)
        self.check_refused("\n".join(["beat"] * 200 + ["cut 1", "x"]), 200)
