import unittest

from attachhall.letters import packed, unpacked
from attachhall.mail import LEFT, TYPED, hall_letter, look_letter, read_hall_letter, read_look_letter

LOOKS = [(TYPED, 0, 1, 0, 0, ""), (TYPED, 3, 10 ** 5, 2, 10 ** 19, "a b;<"), (LEFT, 2, 7, 1, 0, "")]
HALLS = [(0, 1, 0, 0, 0, "", []), (1, 2, 1, 3, 9, "a b", [""]),
         (3, 10 ** 5, 2, 10 ** 19, 10 ** 19, "x", ["> say ", "", "? what", "1 of 2"])]


class MailTest(unittest.TestCase):
    def test_what_is_told_is_read(self):
        for told in LOOKS:
            with self.subTest(told=told):
                self.assertEqual(read_look_letter(look_letter(*told)), told)
                self.assertIsNone(read_hall_letter(look_letter(*told)))
        for told in HALLS:
            with self.subTest(told=told):
                self.assertEqual(read_hall_letter(hall_letter(*told)), told)
                self.assertIsNone(read_look_letter(hall_letter(*told)))

    def test_other_words_and_numbers(self):
        for text in [look_letter(*LOOKS[1]), hall_letter(*HALLS[2])]:
            fields = unpacked(text)
            numbers = range(1, 5 if fields[0] == TYPED else 6)
            for at, wrong in [(0, ""), (0, "what"), *[(at, word) for at in numbers
                                                      for word in ["", "a", "01", " 1", "1" * 21]]]:
                with self.subTest(text=text, at=at, wrong=wrong):
                    other = packed(fields[:at] + [wrong] + fields[at + 1:])
                    self.assertIsNone(read_look_letter(other))
                    self.assertIsNone(read_hall_letter(other))

    def test_fields_too_few_or_too_many(self):
        typed, shown = unpacked(look_letter(*LOOKS[1])), unpacked(hall_letter(*HALLS[0]))
        for fields in [typed[:many] for many in range(1, 6)] + [typed + [""]]:
            with self.subTest(fields=fields):
                self.assertIsNone(read_look_letter(packed(fields)))
        for many in range(1, 7):
            with self.subTest(many=many):
                self.assertIsNone(read_hall_letter(packed(shown[:many])))
