import unittest

from attachhall.errors import BadSign
from attachhall.panes import Pane

LETTERS = "abcdefghijklmnopqrstuvwxyz"
FIGURES = "0123456789"


def typed_into(pane, signs, look=0, session=1):
    for sign in signs:
        pane.press(look, session, sign)
    return pane


def pane_after(signs):
    return typed_into(Pane(), signs)


def state(pane):
    return pane.rows(), pane.line(), pane.job(), pane.changes(), pane.typed()


class FirstTest(unittest.TestCase):
    def test_a_new_pane(self):
        self.assertEqual(state(Pane()), ([], "", None, 0, []))
        self.assertEqual(Pane().since(0), [])

    def test_two_panes_share_nothing(self):
        first, second = Pane(), Pane()
        typed_into(first, "a;many 2;")
        self.assertEqual(state(second), ([], "", None, 0, []))

    def test_press_and_beat_tell_none(self):
        pane = Pane()
        self.assertIsNone(pane.press(0, 1, "a"))
        self.assertIsNone(pane.press(0, 1, ";"))
        self.assertIsNone(pane.beat())
        typed_into(pane, "many 1;")
        self.assertIsNone(pane.beat())


class PressTest(unittest.TestCase):
    def test_each_letter_figure_and_blank_goes_behind_the_line(self):
        for sign in LETTERS + FIGURES + " ":
            with self.subTest(sign=sign):
                self.assertEqual(pane_after("x" + sign).line(), "x" + sign)

    def test_a_blank_may_stand_first(self):
        self.assertEqual(pane_after("  a").line(), "  a")

    def test_lines_of_29_30_and_31_signs(self):
        long = LETTERS + "01234"
        self.assertEqual(pane_after(long[:29]).line(), long[:29])
        self.assertEqual(pane_after(long[:30]).line(), long[:30])
        self.assertEqual(pane_after(long).line(), long[:30])

    def test_a_full_line_takes_a_sign_again_once_one_went(self):
        self.assertEqual(pane_after("a" * 31 + "<b").line(), "a" * 29 + "b")

    def test_a_full_line_is_done_whole(self):
        pane = pane_after("b" * 35 + ";")
        self.assertEqual(pane.rows(), ["> " + "b" * 30, "? " + "b" * 30])
        self.assertEqual(pane.line(), "")

    def test_back_takes_the_last_sign(self):
        self.assertEqual(pane_after("abc<").line(), "ab")
        self.assertEqual(pane_after("abc<<d").line(), "ad")
        self.assertEqual(pane_after("a <").line(), "a")

    def test_back_on_an_empty_line(self):
        self.assertEqual(pane_after("<").line(), "")
        self.assertEqual(pane_after("a<<<b").line(), "b")
        self.assertEqual(pane_after("<").rows(), [])

    def test_signs_that_are_none(self):
        wrong = [chr(number) for number in range(256)
                 if chr(number) not in LETTERS + FIGURES + " <;"]
        for sign in wrong + ["\u00b2", "\u0663", "\u03b1", "\u2003", "\U0001f600"]:
            with self.subTest(sign=sign):
                pane = typed_into(pane_after("ab;many 3;x"), "y", 2, 5)
                before = state(pane), pane.since(0)
                with self.assertRaises(BadSign) as caught:
                    pane.press(1, 1, sign)
                self.assertEqual(caught.exception.place, 0)
                self.assertEqual((state(pane), pane.since(0)), before)

    def test_the_last_forty_rows_stay(self):
        for count in [39, 40, 41, 100]:
            with self.subTest(count=count):
                pane = typed_into(pane_after("many 99;"), ";" * count)
                shown = (["> many 99"] + ["> "] * count)[-40:]
                self.assertEqual(pane.rows(), shown)

    def test_the_oldest_row_goes_first(self):
        pane = pane_after("many 99;")
        for _ in range(99):
            pane.beat()
        self.assertEqual(pane.rows(), [f"{number} of 99" for number in range(60, 100)])

    def test_two_looks_type_into_one_line(self):
        pane = Pane()
        for look, sign in [(0, "a"), (3, "b"), (0, "c"), (3, "<"), (3, "d")]:
            pane.press(look, 1, sign)
        self.assertEqual(pane.line(), "abd")


class LineTest(unittest.TestCase):
    def test_an_empty_line(self):
        pane = pane_after(";")
        self.assertEqual((pane.rows(), pane.line(), pane.job()), (["> "], "", None))

    def test_any_other_line(self):
        for line in ["x", "hello you", " ", "  x ", "say", "sayhi", " say hi", "clear ",
                     " clear", "clear x", "clea", "stop ", " stop", "stop now", "manya",
                     "mani 7", "7", "0"]:
            with self.subTest(line=line):
                pane = pane_after(line + ";")
                self.assertEqual(pane.rows(), ["> " + line, "? " + line])
                self.assertEqual((pane.line(), pane.job()), ("", None))

    def test_say(self):
        for behind in ["hi", "", " ", "  hi ", "say x", "clear", "many 3", "stop"]:
            with self.subTest(behind=behind):
                pane = pane_after("say " + behind + ";")
                self.assertEqual(pane.rows(), ["> say " + behind, behind])
                self.assertEqual((pane.line(), pane.job()), ("", None))

    def test_clear_with_and_without_rows(self):
        self.assertEqual(pane_after("clear;").rows(), [])
        self.assertEqual(pane_after("a;b;clear;").rows(), [])
        self.assertEqual(pane_after("a;clear;clear;").rows(), [])
        self.assertEqual(pane_after("a;clear;b;").rows(), ["> b", "? b"])

    def test_clear_leaves_the_job(self):
        pane = pane_after("many 3;")
        pane.beat()
        typed_into(pane, "clear;")
        self.assertEqual((pane.rows(), pane.job()), ([], (1, 3)))
        pane.beat()
        self.assertEqual(pane.rows(), ["2 of 3"])

    def test_stop_with_a_job(self):
        pane = pane_after("many 7;stop;")
        self.assertEqual(pane.rows(), ["> many 7", "> stop"])
        self.assertIsNone(pane.job())
        pane.beat()
        self.assertEqual(pane.rows(), ["> many 7", "> stop"])

    def test_stop_without_a_job(self):
        self.assertEqual(pane_after("stop;").rows(), ["> stop", "? stop"])
        self.assertEqual(pane_after("many 7;stop;stop;").rows()[-2:], ["> stop", "? stop"])

    def test_many_begins_a_job(self):
        for line, size in [("many 1", 1), ("many 7", 7), ("many 9", 9), ("many 10", 10),
                           ("many 99", 99)]:
            with self.subTest(line=line):
                pane = pane_after(line + ";")
                self.assertEqual(pane.rows(), ["> " + line])
                self.assertEqual((pane.line(), pane.job()), ("", (0, size)))

    def test_many_of_no_such_number_is_another_line(self):
        for line in ["many 0", "many 100", "many 07", "many 00", "many 010", "many 007",
                     "many ", "many", "many7", "many  7", "many 7 ", "many a", "many 7a",
                     "many 1 2", " many 7", "many many 7", "many 999999999999999999999"]:
            with self.subTest(line=line):
                pane = pane_after(line + ";")
                self.assertEqual(pane.rows(), ["> " + line, "? " + line])
                self.assertIsNone(pane.job())

    def test_many_in_the_place_of_another_job(self):
        pane = pane_after("many 7;")
        pane.beat()
        pane.beat()
        typed_into(pane, "many 3;")
        self.assertEqual(pane.job(), (0, 3))
        pane.beat()
        self.assertEqual(pane.rows()[-2:], ["> many 3", "1 of 3"])

    def test_no_other_line_touches_the_job(self):
        for line in ["", "x", "say hi", "many 0", "many ", "stop ", "stop it"]:
            with self.subTest(line=line):
                pane = pane_after("many 7;")
                pane.beat()
                typed_into(pane, line + ";")
                self.assertEqual(pane.job(), (1, 7))


class BeatTest(unittest.TestCase):
    def test_a_beat_without_a_job(self):
        pane = pane_after("ab")
        before = state(pane), pane.since(0)
        pane.beat()
        self.assertEqual((state(pane), pane.since(0)), before)

    def test_beats_up_to_the_last_row_and_behind_it(self):
        pane = pane_after("many 3;")
        jobs = []
        for _ in range(5):
            pane.beat()
            jobs.append(pane.job())
        self.assertEqual(pane.rows(), ["> many 3", "1 of 3", "2 of 3", "3 of 3"])
        self.assertEqual(jobs, [(1, 3), (2, 3), None, None, None])

    def test_a_job_of_one(self):
        pane = pane_after("many 1;")
        pane.beat()
        self.assertEqual((pane.rows(), pane.job()), (["> many 1", "1 of 1"], None))

    def test_stop_behind_the_last_row_is_another_line(self):
        pane = pane_after("many 1;")
        pane.beat()
        typed_into(pane, "stop;")
        self.assertEqual(pane.rows()[-2:], ["> stop", "? stop"])

    def test_beats_leave_the_line(self):
        pane = pane_after("many 2;ab")
        pane.beat()
        self.assertEqual(pane.line(), "ab")
        typed_into(pane, "c;")
        self.assertEqual(pane.rows(), ["> many 2", "1 of 2", "> abc", "? abc"])


class ChangesTest(unittest.TestCase):
    def test_each_sign_that_changes_the_line(self):
        self.assertEqual(pane_after("abc<").changes(), 4)

    def test_signs_that_leave_the_line_as_it_is(self):
        self.assertEqual(pane_after("<").changes(), 0)
        self.assertEqual(pane_after("a<<").changes(), 2)
        self.assertEqual(pane_after("a" * 30).changes(), 30)
        self.assertEqual(pane_after("a" * 31).changes(), 30)
        self.assertEqual(pane_after("a" * 30 + " ").changes(), 30)

    def test_lines_that_are_done(self):
        for line, more in [("", 1), ("x", 3), ("say hi", 3), ("say ", 3), ("clear", 3),
                           ("stop", 3), ("many 7", 2), ("many 0", 3)]:
            with self.subTest(line=line):
                self.assertEqual(pane_after(line + ";").changes(), len(line) + more)

    def test_the_end_of_a_job_is_no_change_of_its_own(self):
        pane = pane_after("many 2;")
        before = pane.changes()
        typed_into(pane, "stop;")
        self.assertEqual(pane.changes(), before + 4 + 2)

    def test_beats(self):
        pane = pane_after("many 2;")
        before = pane.changes()
        counts = []
        for _ in range(4):
            pane.beat()
            counts.append(pane.changes() - before)
        self.assertEqual(counts, [1, 2, 2, 2])

    def test_clear_without_rows_is_a_change_too(self):
        first = pane_after("clear;").changes()
        self.assertEqual(first, 5 + 3)
        self.assertEqual(pane_after("clear;clear;").changes(), 2 * first)

    def test_rows_beyond_forty_count(self):
        self.assertEqual(pane_after(";" * 60).changes(), 60)

    def test_numbers_told_are_whole(self):
        pane = pane_after("many 1;")
        self.assertIs(pane_after("").changes().__class__, int)
        self.assertIs(pane.changes().__class__, int)
        self.assertEqual([part.__class__ for part in pane.job()], [int, int])
        self.assertIs(pane.job().__class__, tuple)


class TypedTest(unittest.TestCase):
    def test_all_that_was_typed_in_turn(self):
        pane = Pane()
        told = [(0, 1, "a"), (3, 100000, "<"), (0, 1, "<"), (2, 7, "<"), (0, 2, ";"),
                (9, 10 ** 19, " "), (-1, 0, "9")]
        for look, session, sign in told:
            pane.press(look, session, sign)
        self.assertEqual(pane.typed(), told)

    def test_the_last_hundred(self):
        signs = [(number % 4, number + 1, LETTERS[number % 26]) for number in range(250)]
        for count in [99, 100, 101, 250]:
            with self.subTest(count=count):
                pane = Pane()
                for look, session, sign in signs[:count]:
                    pane.press(look, session, sign)
                self.assertEqual(pane.typed(), signs[:count][-100:])

    def test_signs_for_a_full_line_are_typed_too(self):
        self.assertEqual(pane_after("a" * 33).typed(), [(0, 1, "a")] * 33)

    def test_clear_leaves_what_was_typed(self):
        self.assertEqual(pane_after("clear;").typed(), [(0, 1, sign) for sign in "clear;"])

    def test_beats_type_nothing(self):
        pane = pane_after("many 2;")
        before = pane.typed()
        pane.beat()
        self.assertEqual(pane.typed(), before)


class SinceTest(unittest.TestCase):
    def test_all_three_kinds_in_turn(self):
        pane = pane_after("a<;")
        self.assertEqual(pane.since(0), [("line", "a"), ("line", ""), ("row", "> ")])
        typed_into(pane, "clear")
        at = pane.changes()
        typed_into(pane, ";b")
        self.assertEqual(pane.since(at), [
            ("row", "> clear"), ("line", ""), ("clear", ""), ("line", "b")])

    def test_each_sort_of_line(self):
        for line, told in [
                ("say hi", [("row", "> say hi"), ("line", ""), ("row", "hi")]),
                ("say ", [("row", "> say "), ("line", ""), ("row", "")]),
                ("x y", [("row", "> x y"), ("line", ""), ("row", "? x y")]),
                ("stop", [("row", "> stop"), ("line", ""), ("row", "? stop")]),
                ("many 7", [("row", "> many 7"), ("line", "")]),
                ("many 07", [("row", "> many 07"), ("line", ""), ("row", "? many 07")])]:
            with self.subTest(line=line):
                pane = pane_after(line)
                at = pane.changes()
                pane.press(0, 1, ";")
                self.assertEqual(pane.since(at), told)

    def test_beats(self):
        pane = pane_after("many 2;")
        at = pane.changes()
        for _ in range(3):
            pane.beat()
        self.assertEqual(pane.since(at), [("row", "1 of 2"), ("row", "2 of 2")])

    def test_the_present_count_and_fewer(self):
        pane = pane_after("abc")
        self.assertEqual(pane.since(3), [])
        self.assertEqual(pane.since(2), [("line", "abc")])
        self.assertEqual(pane.since(1), [("line", "ab"), ("line", "abc")])
        self.assertEqual(pane.since(0), [("line", "a"), ("line", "ab"), ("line", "abc")])

    def test_true_and_false_are_no_counts(self):
        for signs in ["", "a", "abc"]:
            for wrong in [True, False]:
                with self.subTest(signs=signs, wrong=wrong):
                    self.assertIsNone(pane_after(signs).since(wrong))

    def test_thirty_back_and_one_more(self):
        pane = pane_after(LETTERS + "0123")
        self.assertEqual(len(pane.since(0)), 30)
        pane.press(0, 1, ";")
        self.assertEqual(pane.changes(), 33)
        self.assertIsNone(pane.since(2))
        told = pane.since(3)
        self.assertEqual(len(told), 30)
        self.assertEqual(told[0], ("line", "abcd"))
        self.assertEqual(told[-1], ("row", "? " + LETTERS + "0123"))

    def test_exactly_one_change_too_far_back(self):
        pane = pane_after(";" * 31)
        self.assertIsNone(pane.since(0))
        self.assertEqual(pane.since(1), [("row", "> ")] * 30)

    def test_more_than_there_are(self):
        self.assertIsNone(Pane().since(1))
        self.assertIsNone(pane_after("abc").since(4))
        self.assertIsNone(pane_after("abc").since(10 ** 19))

    def test_below_nought(self):
        for pane in [Pane(), pane_after("abc"), pane_after(";" * 40)]:
            for number in [-1, -2, -30, -(10 ** 19)]:
                with self.subTest(number=number, changes=pane.changes()):
                    self.assertIsNone(pane.since(number))

    def test_signs_without_a_change_push_nothing_out(self):
        pane = typed_into(pane_after("a" * 30), "b" * 50)
        self.assertEqual(len(pane.since(0)), 30)

    def test_replayed_changes_give_what_the_pane_has(self):
        pane = Pane()
        rows, line, known = [], "", 0
        for text in ["ab<;", "say hi;", "many 2;x", "<clear;", "stop;", "many 3;", "c" * 25]:
            typed_into(pane, text)
            pane.beat()
            for kind, told in pane.since(known):
                if kind == "row":
                    rows.append(told)
                elif kind == "line":
                    line = told
                else:
                    rows = []
            known = pane.changes()
            self.assertEqual((rows, line), (pane.rows(), pane.line()))


class ToldTest(unittest.TestCase):
    def setUp(self):
        self.pane = pane_after("a;many 3;b")
        self.pane.beat()

    def asked(self):
        return state(self.pane), self.pane.since(9)

    def test_lists_told_may_be_changed(self):
        before = self.asked()
        for told in [self.pane.rows(), self.pane.typed(), self.pane.since(9),
                     self.pane.since(0)]:
            told[0] = "x"
            told.reverse()
            told.clear()
        self.assertEqual(self.asked(), before)

    def test_lists_told_stay_as_they_were(self):
        rows, typed, since = self.pane.rows(), self.pane.typed(), self.pane.since(9)
        kept = list(rows), list(typed), list(since)
        typed_into(self.pane, "clear;c;")
        self.assertEqual((rows, typed, since), kept)

    def test_asked_again_the_same_is_told(self):
        self.assertEqual(self.asked(), self.asked())
