import unittest

from attachhall.errors import BadLook, BadSign, BadSize, NoLook
from attachhall.hall import Hall
from attachhall.letters import packed, unpacked
from attachhall.looks import Look
from attachhall.pictures import view
from recorder import joined, recorded_hall, state_of_look

KEYS = "abcdefghijklmnopqrstuvwxyz0123456789 <;"
FAR = 10 ** 19


def hear_all(hearer, texts):
    for text in texts:
        hearer.hear(text)


def told_for(hall, name):
    return [text for whom, text in hall.letters() if whom == name]


def type_in(hall, name, session, pane, signs):
    """Let a look of its own type signs, and the hall hear them."""
    look = Look(name, session, pane, 20, 5)
    look.press(signs)
    hear_all(hall, look.letters())


class NewLookTest(unittest.TestCase):
    def test_a_new_look(self):
        look = Look(0, 1, 0, 20, 5)
        self.assertIsNone(look.known())
        self.assertEqual(look.picture(), [])
        self.assertEqual(look.waiting(), 0)
        self.assertIs(look.over(), False)

    def test_bounds_that_are_taken(self):
        for told in [(0, 1, 0, 2, 1), (3, 10 ** 5, 2, 40, 20), (1, 2, 1, 2, 20), (2, 99999, 2, 40, 1)]:
            with self.subTest(told=told):
                self.assertEqual(Look(*told).waiting(), 0)

    def test_no_such_look(self):
        for told in [(-1, 1, 0), (4, 1, 0), (FAR, 1, 0), (-FAR, 1, 0), (0, 0, 0), (0, -1, 0),
                     (0, 10 ** 5 + 1, 0), (0, FAR, 0), (0, 1, -1), (0, 1, 3), (0, 1, FAR)]:
            for size in [(20, 5), (1, 5), (20, 0)]:
                with self.subTest(told=told, size=size):
                    with self.assertRaises(BadLook):
                        Look(*told, *size)

    def test_no_such_size(self):
        for size in [(1, 5), (0, 5), (-2, 5), (41, 5), (FAR, 5), (20, 0), (20, -1), (20, 21), (20, FAR)]:
            with self.subTest(size=size):
                with self.assertRaises(BadSize):
                    Look(0, 1, 0, *size)

    def test_true_and_false_are_no_numbers(self):
        for told in [(True, 1, 0), (False, 1, 0), (0, True, 0), (0, False, 0), (0, 1, True), (0, 1, False)]:
            # The size stands behind, so that the look is refused ahead of it.
            for size in [(20, 5), (1, 5), (True, 5), (20, False)]:
                with self.subTest(told=told, size=size):
                    with self.assertRaises(BadLook):
                        Look(*told, *size)
        for size in [(True, 5), (False, 5), (20, True), (20, False)]:
            with self.subTest(size=size):
                with self.assertRaises(BadSize):
                    Look(0, 1, 0, *size)

    def test_what_tells_nothing_tells_none(self):
        look = Look(0, 1, 0, 20, 5)
        self.assertIsNone(look.press("a"))
        self.assertIsNone(look.resize(2, 1))
        self.assertIsNone(look.hear(""))
        self.assertIsNone(look.leave())


class PressTest(unittest.TestCase):
    def test_what_is_typed_waits(self):
        look = Look(0, 1, 0, 20, 5)
        look.press("abc")
        self.assertEqual(look.waiting(), 3)
        look.press("")
        self.assertEqual(look.waiting(), 3)
        look.press(" <;")
        self.assertEqual(look.waiting(), 6)

    def test_each_sign_may_be_typed(self):
        hall, (pane,) = recorded_hall(1)
        look = Look(0, 1, 0, 20, 5)
        look.press(KEYS)
        joined(hall, look)
        self.assertEqual(pane.presses, [(0, 1, sign) for sign in KEYS])
        self.assertEqual(look.waiting(), 0)

    def test_signs_that_are_none(self):
        wrong = [chr(number) for number in range(256) if chr(number) not in KEYS]
        for sign in wrong + ["\u00b2", "\u0663", "\u03b1"]:
            for before in ["", "a", "ab;<"]:
                for behind in ["", "c", sign, "?"]:
                    with self.subTest(sign=sign, before=before, behind=behind):
                        look = Look(0, 1, 0, 20, 5)
                        look.press("x")
                        state = state_of_look(look)
                        with self.assertRaises(BadSign) as caught:
                            look.press(before + sign + behind)
                        self.assertEqual(caught.exception.place, len(before))
                        self.assertEqual(state_of_look(look), state)

    def test_what_was_refused_is_never_done(self):
        hall, (pane,) = recorded_hall(1)
        look = Look(0, 1, 0, 20, 5)
        with self.assertRaises(BadSign):
            look.press("abC")
        look.press("d")
        joined(hall, look)
        self.assertEqual(pane.presses, [(0, 1, "d")])


class LettersTest(unittest.TestCase):
    def test_letters_are_such_as_packed_tells(self):
        for signs in ["", "a", KEYS, "b" * 3000]:
            look = Look(3, 10 ** 5, 2, 20, 5)
            look.press(signs)
            left = Look(3, 10 ** 5, 2, 20, 5)
            left.press(signs)
            left.leave()
            for text in look.letters() + left.letters():
                with self.subTest(text=text):
                    self.assertEqual(packed(unpacked(text)), text)
                    self.assertLessEqual(len(text), 1500)

    def test_a_look_without_signs_tells_letters_too(self):
        self.assertNotEqual(Look(0, 1, 0, 20, 5).letters(), [])

    def test_the_same_is_told_again(self):
        look = Look(0, 1, 0, 20, 5)
        look.press("ab")
        told = look.letters()
        kept = list(told)
        self.assertEqual(look.letters(), kept)
        told.clear()
        self.assertEqual(look.letters(), kept)
        self.assertEqual(look.waiting(), 2)


class HearTest(unittest.TestCase):
    def setUp(self):
        self.hall, (self.pane,) = recorded_hall(1)
        self.look = Look(0, 1, 0, 20, 5)
        hear_all(self.hall, self.look.letters())

    def test_the_first_letter_of_an_empty_pane(self):
        hear_all(self.look, told_for(self.hall, 0))
        self.assertEqual(self.look.known(), 0)
        self.assertEqual(self.look.picture(), ["> "])

    def test_what_others_typed_is_shown(self):
        type_in(self.hall, 1, 1, 0, "say hi;ab")
        hear_all(self.look, told_for(self.hall, 0))
        self.assertEqual(self.look.known(), self.hall.panes()[0][3])
        self.assertEqual(self.look.picture(), ["> say hi", "hi", "> ab"])

    def test_rows_of_all_kinds(self):
        signs = "clear;say ;;many 2;what;" + "say 0123456789;" * 3 + "  x"
        type_in(self.hall, 1, 1, 0, signs)
        self.hall.beat()
        hear_all(self.look, told_for(self.hall, 0))
        self.look.resize(7, 20)
        rows, line, _, changes = self.hall.panes()[0]
        self.assertIn("", rows)
        self.assertEqual(self.look.known(), changes)
        self.assertEqual(self.look.picture(), view(rows, line, 7, 20))

    def test_the_fullest_pane(self):
        type_in(self.hall, 1, 1, 0, ("x" * 30 + ";") * 25 + "y" * 30)
        rows, line, _, changes = self.hall.panes()[0]
        self.assertEqual(len("".join(rows)), 40 * 32)
        for text in told_for(self.hall, 0):
            self.assertLessEqual(len(text), 1500)
            self.look.hear(text)
        self.look.resize(40, 20)
        self.assertEqual(self.look.known(), changes)
        self.assertEqual(self.look.picture(), view(rows, line, 40, 20))

    def test_known_never_goes_back(self):
        told = [told_for(self.hall, 0)]
        for signs in ["a", "b;", "say c;d", "clear;"]:
            self.look.press(signs)
            hear_all(self.hall, self.look.letters())
            told.append(told_for(self.hall, 0))
        for order in [[4, 3, 2, 1, 0], [2, 0, 3, 1, 3, 4, 0], [0, 0, 1, 2, 2, 1, 3, 4, 4]]:
            look = Look(0, 1, 0, 20, 5)
            look.press("ab;say c;dclear;")
            ahead = -1
            for at in order:
                hear_all(look, told[at])
                with self.subTest(order=order, at=at):
                    self.assertGreaterEqual(look.known(), ahead)
                    ahead = look.known()
                    self.assertEqual(look.picture(), view(*self.pane.states[ahead], 20, 5))
            self.assertEqual(look.known(), self.hall.panes()[0][3])
            self.assertEqual(look.waiting(), 0)

    def test_waiting_never_tells_fewer_than_are_not_done(self):
        self.look.press("abc")
        hear_all(self.hall, self.look.letters())
        three = told_for(self.hall, 0)
        self.look.press("de")
        self.assertEqual(self.look.waiting(), 5)
        hear_all(self.look, three)
        self.assertEqual(self.look.waiting(), 2)
        hear_all(self.hall, self.look.letters())
        five = told_for(self.hall, 0)
        hear_all(self.look, five)
        self.assertEqual(self.look.waiting(), 0)
        self.look.press("f")
        for text in three + five + five:
            self.look.hear(text)
            self.assertEqual(self.look.waiting(), 1)
        joined(self.hall, self.look)
        self.assertEqual(self.pane.presses, [(0, 1, sign) for sign in "abcdef"])

    def test_letters_cut_off_change_nothing(self):
        self.look.press("say hi;many 3;")
        hear_all(self.hall, self.look.letters())
        self.hall.beat()
        state = state_of_look(self.look)
        for text in told_for(self.hall, 0):
            for many in range(len(text)):
                self.look.hear(text[:many])
                with self.subTest(many=many):
                    self.assertEqual(state_of_look(self.look), state)

    def test_other_texts_change_nothing(self):
        self.look.press("a")
        state = state_of_look(self.look)
        for text in ["", "!", "hello", packed([""]), packed(["a", "b"])] + self.look.letters():
            self.look.hear(text)
            with self.subTest(text=text):
                self.assertEqual(state_of_look(self.look), state)

    def test_letters_of_another_pane_change_nothing(self):
        other = Look(0, 1, 1, 20, 5)
        state = state_of_look(other)
        hear_all(other, told_for(self.hall, 0))
        self.assertEqual(state_of_look(other), state)

    def test_letters_of_elder_sessions_change_nothing(self):
        hall, _ = recorded_hall(2)
        elder = Look(0, 3, 0, 20, 5)
        elder.press("say old;abc")
        hear_all(hall, elder.letters())
        told = told_for(hall, 0)
        for pane in range(2):
            look = Look(0, 4, pane, 20, 5)
            look.press("wxyz")
            state = state_of_look(look)
            hear_all(look, told)
            self.assertEqual(state_of_look(look), state)
        joined(hall, look)
        state = state_of_look(look)
        hear_all(look, told)
        self.assertEqual(state_of_look(look), state)

    def test_a_picture_may_be_changed(self):
        joined(self.hall, self.look)
        self.look.picture().append("x")
        self.assertEqual(self.look.picture(), ["> "])


class ResizeTest(unittest.TestCase):
    def test_another_size(self):
        hall = Hall(1)
        look = Look(0, 1, 0, 20, 5)
        look.press("say hello world;ab")
        joined(hall, look)
        self.assertEqual(look.picture(), ["> say hello world", "hello world", "> ab"])
        look.resize(6, 3)
        self.assertEqual(look.picture(), ["hello ", "world", "> ab"])
        look.resize(2, 1)
        self.assertEqual(look.picture(), ["ab"])
        look.resize(40, 20)
        self.assertEqual(look.picture(), ["> say hello world", "hello world", "> ab"])

    def test_ahead_of_the_first_letter(self):
        look = Look(0, 1, 0, 20, 5)
        look.resize(2, 3)
        self.assertEqual(look.picture(), [])
        hall = Hall(1)
        look.press("abc")
        joined(hall, look)
        self.assertEqual(look.picture(), ["> ", "ab", "c"])

    def test_no_such_size(self):
        hall = Hall(1)
        look = Look(0, 1, 0, 6, 2)
        look.press("say hello world;")
        joined(hall, look)
        state = state_of_look(look)
        for size in [(1, 2), (41, 2), (6, 0), (6, 21), (1, 0), (40, 21), (41, 20), (FAR, 2), (6, -FAR),
                     (True, 2), (False, 2), (6, True), (6, False)]:
            with self.subTest(size=size):
                with self.assertRaises(BadSize):
                    look.resize(*size)
                self.assertEqual(state_of_look(look), state)


class LeaveTest(unittest.TestCase):
    def test_it_types_no_more(self):
        look = Look(0, 1, 0, 20, 5)
        look.press("abc")
        look.leave()
        state = state_of_look(look)
        for signs in ["a", "", "A", "a?"]:
            with self.subTest(signs=signs):
                with self.assertRaises(NoLook):
                    look.press(signs)
                self.assertEqual(state_of_look(look), state)

    def test_what_waits_is_let_be(self):
        hall, (pane,) = recorded_hall(1)
        look = Look(0, 1, 0, 20, 5)
        look.press("abc")
        hear_all(hall, look.letters())
        look.press("de")
        look.leave()
        self.assertEqual(look.waiting(), 5)
        for _ in range(3):
            joined(hall, look)
        self.assertEqual(pane.presses, [(0, 1, sign) for sign in "abc"])
        self.assertEqual(hall.looks(), [])

    def test_it_shows_what_it_knew(self):
        hall = Hall(1)
        look = Look(0, 1, 0, 20, 5)
        look.press("ab")
        joined(hall, look)
        look.leave()
        look.leave()
        self.assertEqual(look.picture(), ["> ab"])
        look.resize(2, 1)
        self.assertEqual(look.picture(), ["ab"])
        self.assertIs(look.over(), False)


class OverTest(unittest.TestCase):
    def setUp(self):
        self.hall = Hall(2)
        self.elder = Look(2, 5, 0, 20, 5)
        self.elder.press("ab")
        joined(self.hall, self.elder)
        self.elder.press("cd")

    def test_a_letter_for_a_later_session(self):
        own = told_for(self.hall, 2)
        for session in [6, 7, 10 ** 5]:
            type_in(self.hall, 2, session, 1, "x")
        hear_all(self.elder, told_for(self.hall, 2))
        self.assertIs(self.elder.over(), True)
        self.assertEqual(self.elder.letters(), [])
        self.assertEqual(self.elder.waiting(), 2)
        self.assertEqual(self.elder.picture(), ["> ab"])
        state = state_of_look(self.elder)
        for signs in ["a", "", "?", "aB"]:
            with self.subTest(signs=signs):
                with self.assertRaises(NoLook):
                    self.elder.press(signs)
        hear_all(self.elder, own)
        self.assertEqual(state_of_look(self.elder), state)

    def test_letters_of_its_own_that_come_late_change_nothing(self):
        for text in self.elder.letters():
            self.hall.hear(text)
        late = told_for(self.hall, 2)
        type_in(self.hall, 2, 6, 0, "x")
        hear_all(self.elder, told_for(self.hall, 2))
        state = state_of_look(self.elder)
        hear_all(self.elder, late)
        self.assertEqual(state_of_look(self.elder), state)

    def test_each_letter_for_the_later_session_tells_it(self):
        later = Look(2, 6, 1, 20, 5)
        told = []
        for signs in ["", "say x;", "y"]:
            later.press(signs)
            hear_all(self.hall, later.letters())
            told.extend(told_for(self.hall, 2))
            self.hall.beat()
        for text in told:
            look = Look(2, 5, 0, 20, 5)
            look.hear(text)
            with self.subTest(text=text):
                self.assertIs(look.over(), True)
                self.assertIsNone(look.known())
                self.assertEqual(look.picture(), [])

    def test_letters_of_the_own_session_do_not_tell_it(self):
        joined(self.hall, self.elder)
        self.assertIs(self.elder.over(), False)
        later = Look(2, 6, 0, 20, 5)
        hear_all(later, told_for(self.hall, 2))
        self.assertIs(later.over(), False)

    def test_one_that_left_hears_it_too(self):
        self.elder.leave()
        self.assertNotEqual(self.elder.letters(), [])
        type_in(self.hall, 2, 6, 0, "x")
        hear_all(self.elder, told_for(self.hall, 2))
        self.assertIs(self.elder.over(), True)
        self.assertEqual(self.elder.letters(), [])

    def test_letters_cut_off_do_not_tell_it(self):
        type_in(self.hall, 2, 6, 0, "x")
        for text in told_for(self.hall, 2):
            for many in range(len(text)):
                self.elder.hear(text[:many])
        self.assertIs(self.elder.over(), False)
