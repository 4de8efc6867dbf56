import unittest

from attachhall.errors import BadFields
from attachhall.letters import packed, unpacked

NUMBERS = {sign: number for number, sign in
           enumerate("abcdefghijklmnopqrstuvwxyz0123456789 >?<;|", start=1)}
FIELD_SIGNS = [sign for sign in NUMBERS if sign != "|"]
LISTS = [["a"], [""], ["", ""], ["", "a", ""], ["say hi;", "0", "> ?<;"], ["x"] * 50,
         [" "], ["0"], ["007", "1 2"], ["a" * 2000, "", "9" * 1234], FIELD_SIGNS,
         ["".join(FIELD_SIGNS)]]


def letter(body):
    """The letter of a body, its sum counted by powers of 61 all at once."""
    powers = [61 ** at for at in range(len(body))]
    total = sum(NUMBERS[sign] * power for sign, power in zip(reversed(body), powers))
    return str(len(body)) + "." + str(total - total // 9973 * 9973) + "." + body + "!"


class PackedTest(unittest.TestCase):
    def test_letters_counted_by_hand(self):
        for fields, text in [
                (["a"], "1.1.a!"), (["z"], "1.26.z!"), (["0"], "1.27.0!"),
                (["9"], "1.36.9!"), ([" "], "1.37. !"), ([">"], "1.38.>!"),
                (["?"], "1.39.?!"), (["<"], "1.40.<!"), ([";"], "1.41.;!"),
                (["", ""], "1.42.|!"), ([""], "0.0.!"), (["ab"], "2.63.ab!"),
                (["zzz"], "3.8601.zzz!"), (["a", "b"], "3.6285.a|b!")]:
            with self.subTest(fields=fields):
                self.assertEqual(packed(fields), text)

    def test_many_fields(self):
        for fields in LISTS:
            with self.subTest(fields=fields):
                self.assertEqual(packed(fields), letter("|".join(fields)))

    def test_each_sign(self):
        for sign in FIELD_SIGNS:
            with self.subTest(sign=sign):
                self.assertEqual(packed([sign, "q" + sign]), letter(f"{sign}|q{sign}"))

    def test_no_fields(self):
        with self.assertRaises(BadFields):
            packed([])

    def test_wrong_signs(self):
        wrong = [chr(number) for number in range(256) if chr(number) not in FIELD_SIGNS]
        self.assertIn("|", wrong)
        for sign in wrong + ["\u00b2", "\u0663", "\u03b1", "\U0001f600"]:
            for fields in [[sign], ["a", "b" + sign], [sign + "c", "d"], ["e" + sign + "f"]]:
                with self.subTest(fields=fields):
                    with self.assertRaises(BadFields):
                        packed(fields)

    def test_the_list_handed_in_stays(self):
        fields = ["a", "", "b c"]
        packed(fields)
        self.assertEqual(fields, ["a", "", "b c"])
        wrong = ["a", "B"]
        with self.assertRaises(BadFields):
            packed(wrong)
        self.assertEqual(wrong, ["a", "B"])


class UnpackedTest(unittest.TestCase):
    def test_what_was_packed(self):
        for fields in LISTS:
            with self.subTest(fields=fields):
                self.assertEqual(unpacked(packed(fields)), fields)

    def test_the_list_told_may_be_changed(self):
        told = unpacked("3.6285.a|b!")
        told.clear()
        self.assertEqual(unpacked("3.6285.a|b!"), ["a", "b"])

    def test_a_wrong_number(self):
        for text in ["0.63.ab!", "1.63.ab!", "3.63.ab!", "20.63.ab!", ".63.ab!",
                     "-2.63.ab!", "a.63.ab!", "2 .63.ab!", " 2.63.ab!", "+2.63.ab!",
                     "\u0662.63.ab!", "\u00b2.63.ab!", "1.0.!", ".0.!",
                     "9" * 5000 + ".63.ab!"]:
            with self.subTest(text=text):
                self.assertIsNone(unpacked(text))

    def test_a_needless_0(self):
        for text in ["02.63.ab!", "2.063.ab!", "00.0.!", "0.00.!", "0002.63.ab!"]:
            with self.subTest(text=text):
                self.assertIsNone(unpacked(text))

    def test_a_wrong_sum(self):
        for text in ["2.62.ab!", "2.64.ab!", "2.0.ab!", "2..ab!", "2.6 3.ab!", "2.63 .ab!",
                     "2.-63.ab!", "2.10036.ab!", "3.98358.zzz!", "0.9973.!", "0.1.!",
                     "0..!", "2.6\u0663.ab!"]:
            with self.subTest(text=text):
                self.assertIsNone(unpacked(text))

    def test_other_texts(self):
        for text in ["", "!", ".", "..", "..!", "a", "2.63.ab", "2.63ab!", "2.63.ab!!",
                     "2.63.ab!\n", "2.63.ab?", "2.63.ab.", "2.63.ab!2.63.ab!", "2,63,ab!",
                     "2.63..ab!", "2.63.a.b!", "1.2.3.4!", " 2.63.ab!", "2.63.ab! ",
                     "2.63.AB!", "1.1.A!", "1.0.\u00b2!", "1.-1.~!", "\n2.63.ab!"]:
            with self.subTest(text=text):
                self.assertIsNone(unpacked(text))

    def test_wrong_signs_in_the_body(self):
        for sign in "AZ.!-_~\n\t\u00e9\u0663":
            for total in range(-1, 43):
                with self.subTest(sign=sign, total=total):
                    self.assertIsNone(unpacked(f"1.{total}.{sign}!"))


class SpoiledTest(unittest.TestCase):
    texts = [packed(fields) for fields in
             [["a"], [""], ["say hi;", "0", "> ?<;"], ["3", "100000", "12", "row", "> many 7"]]]

    def test_each_beginning(self):
        for text in self.texts:
            for many in range(len(text)):
                with self.subTest(text=text, many=many):
                    self.assertIsNone(unpacked(text[:many]))

    def test_each_end(self):
        for text in self.texts:
            for many in range(1, len(text) + 1):
                with self.subTest(text=text, many=many):
                    self.assertIsNone(unpacked(text[many:]))

    def test_a_sign_too_few(self):
        for text in self.texts:
            for at in range(len(text)):
                with self.subTest(text=text, at=at):
                    self.assertIsNone(unpacked(text[:at] + text[at + 1:]))

    def test_a_sign_too_many(self):
        for text in self.texts:
            for at in range(len(text) + 1):
                for sign in [chr(number) for number in range(32, 127)]:
                    with self.subTest(text=text, at=at, sign=sign):
                        self.assertIsNone(unpacked(text[:at] + sign + text[at:]))

    def test_another_sign(self):
        for text in self.texts:
            for at in range(len(text)):
                for sign in [chr(number) for number in range(32, 127)]:
                    if sign != text[at]:
                        with self.subTest(text=text, at=at, sign=sign):
                            self.assertIsNone(unpacked(text[:at] + sign + text[at + 1:]))

    def test_two_signs_exchanged(self):
        for text in self.texts:
            for high in range(len(text)):
                for low in range(high):
                    if text[low] != text[high]:
                        signs = list(text)
                        signs[low], signs[high] = signs[high], signs[low]
                        with self.subTest(text=text, low=low, high=high):
                            self.assertIsNone(unpacked("".join(signs)))
