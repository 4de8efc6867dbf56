import itertools
import unittest

from attachhall.errors import BadCount
from attachhall.hall import Hall
from attachhall.letters import packed, unpacked
from attachhall.looks import Look
from attachhall.panes import Pane
from attachhall.pictures import view
from recorder import joined, recorded_hall, round_of, signs_of, state_of_hall

FAR = 10 ** 19


def look_at(name, session, pane, signs=""):
    look = Look(name, session, pane, 20, 5)
    look.press(signs)
    return look


def heard(hall, *looks):
    for look in looks:
        for text in look.letters():
            hall.hear(text)
    return hall


class NewHallTest(unittest.TestCase):
    def test_new_halls(self):
        for many in [1, 2, 3]:
            with self.subTest(many=many):
                hall = Hall(many)
                self.assertEqual(hall.panes(), [([], "", None, 0)] * many)
                self.assertEqual([hall.typed(pane) for pane in range(many)], [[]] * many)
                self.assertEqual(hall.looks(), [])
                self.assertEqual(hall.letters(), [])

    def test_no_such_count(self):
        for many in [0, -1, 4, FAR, -FAR]:
            with self.subTest(many=many):
                with self.assertRaises(BadCount):
                    Hall(many)

    def test_no_such_pane(self):
        for many in [1, 2, 3]:
            for pane in [-1, many, many + 1, FAR, -FAR]:
                with self.subTest(many=many, pane=pane):
                    with self.assertRaises(BadCount):
                        Hall(many).typed(pane)

    def test_true_and_false_are_no_numbers(self):
        for wrong in [True, False]:
            with self.subTest(wrong=wrong):
                with self.assertRaises(BadCount):
                    Hall(wrong)
                for many in [1, 2, 3]:
                    hall = heard(Hall(many), look_at(0, 1, 0, "ab"))
                    state = state_of_hall(hall)
                    with self.assertRaises(BadCount):
                        hall.typed(wrong)
                    self.assertEqual(state_of_hall(hall), state)

    def test_what_tells_nothing_tells_none(self):
        self.assertIsNone(Hall(1).beat())
        self.assertIsNone(Hall(1).hear(""))
        self.assertIsNone(Hall(1).hear(look_at(0, 1, 0, "a").letters()[0]))


class PanesTest(unittest.TestCase):
    def test_signs_go_to_the_pane_of_the_look(self):
        hall = heard(Hall(3), look_at(0, 1, 2, "say hi;a"), look_at(1, 7, 0, "many 2;"))
        self.assertEqual(hall.panes(), [
            (["> many 2"], "", (0, 2), 8), ([], "", None, 0), (["> say hi", "hi"], "a", None, 10)])
        self.assertEqual(hall.typed(0), [(1, 7, sign) for sign in "many 2;"])
        self.assertEqual(hall.typed(1), [])
        self.assertEqual(hall.typed(2), [(0, 1, sign) for sign in "say hi;a"])

    def test_typed_tells_the_last_hundred(self):
        signs = "abcdefghij" * 12
        hall = heard(Hall(1), look_at(0, 1, 0, signs))
        self.assertEqual(hall.typed(0), [(0, 1, sign) for sign in signs[-100:]])

    def test_beat_beats_all(self):
        hall = heard(Hall(3), look_at(0, 1, 0, "many 2;"), look_at(1, 1, 2, "many 3;"))
        hall.beat()
        self.assertEqual([pane[:3] for pane in hall.panes()], [
            (["> many 2", "1 of 2"], "", (1, 2)), ([], "", None), (["> many 3", "1 of 3"], "", (1, 3))])
        hall.beat()
        self.assertEqual([pane[2] for pane in hall.panes()], [None, None, (2, 3)])

    def test_panes_go_on_the_same_whoever_looks(self):
        alone, seen = Pane(), heard(Hall(2), look_at(0, 1, 0), look_at(1, 1, 1), look_at(2, 4, 0))
        for sign in "many 9;say x;":
            alone.press(3, 1, sign)
        heard(seen, look_at(3, 1, 0, "many 9;say x;"))
        for at in range(12):
            alone.beat()
            seen.beat()
            heard(seen, look_at(0, at + 1, 0), look_at(1, at + 1, 0))
            if at == 6:
                leaving = look_at(3, 1, 0)
                leaving.leave()
                heard(seen, leaving)
            seen.letters()
            self.assertEqual(seen.panes()[0], (alone.rows(), alone.line(), alone.job(), alone.changes()))
        self.assertEqual(seen.panes()[1], ([], "", None, 0))
        self.assertEqual(seen.typed(0), alone.typed())

    def test_what_is_told_may_be_changed(self):
        hall = heard(Hall(1), look_at(0, 1, 0, "say hi;"))
        state = state_of_hall(hall)
        panes, looks, letters, typed = hall.panes(), hall.looks(), hall.letters(), hall.typed(0)
        panes[0][0].append("x")
        for told in [panes, looks, letters, typed]:
            told.clear()
        self.assertEqual(state_of_hall(hall), state)

    def test_the_same_is_told_again(self):
        hall = heard(Hall(2), look_at(0, 1, 0, "say hi;"), look_at(1, 1, 1, "many 3;"))
        self.assertEqual(state_of_hall(hall), state_of_hall(hall))


class LooksTest(unittest.TestCase):
    def test_a_look_is_there_from_its_first_letter_on(self):
        hall = Hall(3)
        for look, there in [(look_at(2, 4, 1), [(2, 4, 1)]),
                            (look_at(0, 9, 2, "a"), [(0, 9, 2), (2, 4, 1)]),
                            (look_at(3, 1, 1), [(0, 9, 2), (2, 4, 1), (3, 1, 1)]),
                            (look_at(1, 10 ** 5, 0), [(0, 9, 2), (1, 10 ** 5, 0), (2, 4, 1), (3, 1, 1)])]:
            heard(hall, look)
            self.assertEqual(hall.looks(), there)
            self.assertEqual([name for name, _ in hall.letters()], [name for name, _, _ in there])

    def test_letters_are_such_as_packed_tells(self):
        hall = heard(Hall(3), look_at(0, 1, 0, "say ;say hi;ab"), look_at(1, 1, 1), look_at(2, 1, 0))
        for name, text in hall.letters():
            with self.subTest(name=name):
                self.assertEqual(packed(unpacked(text)), text)

    def test_until_it_left(self):
        hall = heard(Hall(1), look_at(0, 1, 0, "a"), look_at(1, 1, 0))
        look = look_at(0, 1, 0)
        look.leave()
        heard(hall, look)
        self.assertEqual(hall.looks(), [(1, 1, 0)])
        self.assertEqual([name for name, _ in hall.letters()], [1])

    def test_it_left_ahead_of_all_other_letters(self):
        hall = heard(Hall(1), look_at(0, 1, 0, "a"))
        look = look_at(0, 2, 0, "b")
        told = look.letters()
        look.leave()
        heard(hall, look)
        self.assertEqual(hall.looks(), [])
        state = state_of_hall(hall)
        for text in told + look_at(0, 1, 0, "abc").letters():
            hall.hear(text)
            self.assertEqual(state_of_hall(hall), state)

    def test_letters_of_a_session_that_left_change_nothing(self):
        look = look_at(0, 2, 0, "abc")
        hall = heard(Hall(1), look)
        look.press("def")
        late = look.letters()
        look.leave()
        heard(hall, look)
        state = state_of_hall(hall)
        for text in late + look.letters() + late:
            hall.hear(text)
            self.assertEqual(state_of_hall(hall), state)
        self.assertEqual(hall.panes()[0][1], "abc")

    def test_until_a_later_session_of_its_name(self):
        hall = heard(Hall(2), look_at(0, 1, 0, "a"), look_at(1, 1, 0), look_at(0, 2, 1))
        self.assertEqual(hall.looks(), [(0, 2, 1), (1, 1, 0)])
        heard(hall, look_at(0, 10 ** 5, 0))
        self.assertEqual(hall.looks(), [(0, 10 ** 5, 0), (1, 1, 0)])
        self.assertEqual([name for name, _ in hall.letters()], [0, 1])

    def test_a_name_that_left_comes_anew(self):
        look = look_at(0, 1, 0, "a")
        hall = heard(Hall(2), look)
        look.leave()
        heard(hall, look, look_at(0, 2, 1, "b"))
        self.assertEqual(hall.looks(), [(0, 2, 1)])
        heard(hall, look)
        self.assertEqual(hall.looks(), [(0, 2, 1)])
        self.assertEqual([hall.typed(0), hall.typed(1)], [[(0, 1, "a")], [(0, 2, "b")]])

    def test_letters_of_elder_sessions_change_nothing(self):
        elder = [look_at(0, session, 0, "abc") for session in [1, 3]]
        leaving = look_at(0, 3, 0)
        leaving.leave()
        hall = heard(Hall(2), look_at(0, 4, 1, "x"))
        state = state_of_hall(hall)
        for look in elder + [leaving]:
            heard(hall, look)
            self.assertEqual(state_of_hall(hall), state)

    def test_letters_of_a_pane_that_there_is_not_change_nothing(self):
        for many, pane in [(1, 1), (1, 2), (2, 2)]:
            with self.subTest(many=many, pane=pane):
                hall = heard(Hall(many), look_at(0, 1, 0, "ab"))
                state = state_of_hall(hall)
                leaving = look_at(0, 3, pane)
                leaving.leave()
                heard(hall, look_at(0, 1, pane, "abc"), look_at(0, 2, pane, "x"), look_at(1, 1, pane), leaving)
                self.assertEqual(state_of_hall(hall), state)
                heard(hall, look_at(0, 2, 0, "c"))
                self.assertEqual(hall.looks(), [(0, 2, 0)])
                self.assertEqual(hall.panes()[0][1], "abc")

    def test_a_session_stays_at_its_pane(self):
        hall = heard(Hall(2), look_at(0, 1, 0, "ab"))
        state = state_of_hall(hall)
        heard(hall, look_at(0, 1, 1, "abc"))
        self.assertEqual(state_of_hall(hall), state)

    def test_letters_cut_off_change_nothing(self):
        leaving = look_at(0, 1, 0)
        leaving.leave()
        hall = heard(Hall(1), look_at(0, 1, 0, "a"))
        state = state_of_hall(hall)
        for look in [look_at(0, 1, 0, "abcd;"), leaving, look_at(0, 2, 0), look_at(1, 1, 0, "z")]:
            for text in look.letters():
                for many in range(len(text)):
                    hall.hear(text[:many])
        self.assertEqual(state_of_hall(hall), state)

    def test_other_texts_change_nothing(self):
        hall = heard(Hall(1), look_at(0, 1, 0, "a"))
        state = state_of_hall(hall)
        told = [text for _, text in hall.letters()]
        for text in ["", "!", "hello", packed([""]), packed(["a", "b"])] + told:
            hall.hear(text)
            with self.subTest(text=text):
                self.assertEqual(state_of_hall(hall), state)


class TypedOnceTest(unittest.TestCase):
    def test_letters_heard_again(self):
        hall, (pane,) = recorded_hall(1)
        look = look_at(1, 2, 0, "many 5;")
        told = look.letters()
        for _ in range(3):
            for text in told:
                hall.hear(text)
        self.assertEqual(pane.presses, [(1, 2, sign) for sign in "many 5;"])
        self.assertEqual(look.waiting(), 7)

    def test_letters_in_any_order(self):
        for order in itertools.permutations(range(4)):
            hall, (pane,) = recorded_hall(1)
            look = look_at(0, 1, 0)
            told = []
            for signs in ["ab", "c", "", "defg;"]:
                look.press(signs)
                told.append(look.letters())
            longest = 0
            for at in order:
                for text in told[at]:
                    hall.hear(text)
                longest = max(longest, [2, 3, 3, 8][at])
                with self.subTest(order=order, at=at):
                    self.assertEqual(signs_of(pane, 0, 1), "abcdefg;"[:longest])

    def test_letters_behind_an_answer_in_any_order(self):
        for order in itertools.permutations(range(3)):
            hall, (pane,) = recorded_hall(1)
            look = look_at(0, 1, 0, "ab")
            told = [look.letters()]
            joined(hall, look)
            look.press("cd")
            told.append(look.letters())
            joined(hall, look)
            look.press("ef")
            told.append(look.letters())
            for at in order:
                for text in told[at]:
                    hall.hear(text)
            with self.subTest(order=order):
                self.assertEqual(signs_of(pane, 0, 1), "abcdef")

    def test_a_part_that_is_missing_is_waited_for(self):
        for part in [slice(None, None, -1), slice(1, None), slice(None, None, 2)]:
            signs = "".join(f"say {number};" for number in range(700))
            look = look_at(0, 1, 0, signs)
            hall, (pane,) = recorded_hall(1)
            for text in look.letters()[part]:
                hall.hear(text)
            with self.subTest(part=part):
                done = signs_of(pane, 0, 1)
                self.assertEqual(done, signs[:len(done)])
                joined(hall, look)
                self.assertEqual(signs_of(pane, 0, 1), signs)

    def test_two_looks_at_one_pane(self):
        hall, (pane,) = recorded_hall(1)
        first, second = look_at(0, 1, 0, "abc"), look_at(1, 1, 0, "xyz")
        heard(hall, first, second)
        first.press("de")
        second.press("uvw")
        heard(hall, second, first)
        self.assertEqual(signs_of(pane, 0, 1), "abcde")
        self.assertEqual(signs_of(pane, 1, 1), "xyzuvw")
        self.assertEqual(len(pane.presses), 11)

    def test_of_each_session_a_first_part_is_done(self):
        hall, (pane,) = recorded_hall(1)
        elder = look_at(0, 1, 0, "abc")
        heard(hall, elder)
        elder.press("def")
        late = elder.letters()
        later = look_at(0, 2, 0, "xy")
        heard(hall, later)
        for text in late:
            hall.hear(text)
        later.press("z")
        heard(hall, later)
        self.assertEqual(pane.presses, [(0, 1, "a"), (0, 1, "b"), (0, 1, "c"),
                                        (0, 2, "x"), (0, 2, "y"), (0, 2, "z")])


class RoundsTest(unittest.TestCase):
    def check(self, many, looks):
        hall, panes = recorded_hall(many)
        waits = max(look.waiting() for look in looks)
        for _ in range(2 * ((waits + 19) // 20) + 10):
            round_of(hall, looks)
        self.check_through(hall, looks)
        return panes

    def check_through(self, hall, looks):
        latest = {look.name: max(other.session for other in looks if other.name == look.name)
                  for look in looks}
        for look in looks:
            if look.session < latest[look.name]:
                self.assertIs(look.over(), True)
            elif look.has_left():
                self.assertNotIn(look.name, [name for name, _, _ in hall.looks()])
            else:
                rows, line, _, changes = hall.panes()[look.pane]
                self.assertEqual(look.known(), changes)
                self.assertEqual(look.waiting(), 0)
                self.assertEqual(look.picture(), view(rows, line, 20, 5))
                self.assertIn((look.name, look.session, look.pane), hall.looks())

    def test_many_signs_at_one_look(self):
        for many in [0, 1, 19, 20, 21, 40, 41, 399, 400, 3000]:
            with self.subTest(many=many):
                signs = ("say ab;c< 0" * 300)[:many]
                pane, = self.check(1, [look_at(0, 1, 0, signs)])
                self.assertEqual(signs_of(pane, 0, 1), signs)

    def test_many_looks(self):
        looks = [look_at(name, 5 + name, name * 2 // 3, "many 3;ab" * (1 + 7 * name)) for name in range(4)]
        panes = self.check(3, looks)
        for look in looks:
            self.assertEqual(signs_of(panes[look.pane], look.name, look.session),
                             "many 3;ab" * (1 + 7 * look.name))

    def test_several_sessions_and_looks_that_left(self):
        for order in itertools.permutations(range(5)):
            looks = [look_at(0, 1, 0, "ab"), look_at(0, 2, 1, "cd"), look_at(0, 4, 0, "ef"),
                     look_at(1, 1, 0, "gh"), look_at(2, 3, 1, "ij")]
            looks[3].leave()
            with self.subTest(order=order):
                panes = self.check(2, [looks[at] for at in order])
                self.assertEqual(signs_of(panes[0], 0, 4), "ef")
                self.assertEqual(signs_of(panes[0], 1, 1), "")
                self.assertEqual(signs_of(panes[1], 2, 3), "ij")

    def test_behind_losses(self):
        hall, (pane,) = recorded_hall(1)
        look, other = look_at(0, 1, 0, "say abc;" * 20), look_at(1, 1, 0)
        # First only the looks' letters come through, then only the hall's.
        heard(hall, look, other)
        look.press("xyz")
        for name, text in hall.letters():
            [look, other][name].hear(text)
        hall.beat()
        for _ in range(2 * 9 + 10):
            round_of(hall, [look, other])
        self.check_through(hall, [look, other])
        self.assertEqual(signs_of(pane, 0, 1), "say abc;" * 20 + "xyz")
