"""Long mixed runs: letters lost, late, twice, in any order and cut off, looks coming and going."""

import random
import unittest

from attachhall.errors import HallError
from attachhall.looks import Look
from attachhall.notes import read, written
from attachhall.pictures import view
from recorder import recorded_hall, recorded_world, round_of, signs_of, state_of_hall, state_of_look

LINES = ["a", "b<", "say x;", "clear;", "many 4;", "stop;", ";", "<<<", "what is 7;", "say 0123456789;", " "]


class Run:
    """A hall and looks, and all letters that were ever told, each to be heard at any time."""

    def __init__(self, seed):
        self.chance = random.Random(seed)
        self.hall, self.panes = recorded_hall(self.chance.randint(1, 3))
        self.looks = []
        self.typed = {}
        self.for_hall = []
        self.for_looks = []
        self.first_heard = {}

    def come(self):
        name = self.chance.randint(0, 3)
        session = max([look.session for look in self.looks if look.name == name], default=0)
        look = Look(name, session + self.chance.randint(1, 3), self.chance.randrange(len(self.panes)),
                    self.chance.randint(2, 40), self.chance.randint(1, 20))
        self.looks.append(look)
        self.typed[name, look.session] = ""

    def press(self):
        if self.looks:
            look = self.chance.choice(self.looks)
            signs = "".join(self.chance.choices(LINES, k=self.chance.randint(0, 12)))
            try:
                look.press(signs)
            except HallError:
                assert look.over() or look.has_left()
            else:
                self.typed[look.name, look.session] += signs

    def change(self):
        if self.looks:
            look = self.chance.choice(self.looks)
            if self.chance.random() < 0.2:
                look.leave()
            else:
                look.resize(self.chance.randint(2, 40), self.chance.randint(1, 20))

    def tell(self):
        for look in self.looks:
            self.for_hall.extend((look.name, look.session, text) for text in look.letters())
        self.for_looks.extend(self.hall.letters())

    def hear(self):
        for _ in range(self.chance.randint(1, 6)):
            if self.for_hall:
                self.hall.hear(self.cut(self.one_of(self.for_hall)[2]))
            if self.for_looks:
                name, text = self.one_of(self.for_looks)
                text = self.cut(text)
                for look in self.looks:
                    if look.name == name and self.chance.random() < 0.7:
                        look.hear(text)

    def one_of(self, letters):
        # Late ones, but the newest more often.
        least = 0 if self.chance.random() < 0.3 else max(0, len(letters) - 12)
        return letters[self.chance.randrange(least, len(letters))]

    def cut(self, text):
        if self.chance.random() < 0.1:
            return text[:self.chance.randrange(len(text))]
        return text

    def step(self):
        act = self.chance.choices([self.come, self.press, self.change, self.tell, self.hear, self.hall.beat],
                                  [1, 8, 1, 6, 12, 3])[0]
        act()


class ChanceTest(unittest.TestCase):
    def check(self, run, known):
        for look in run.looks:
            told, pane = look.known(), run.panes[look.pane]
            done = signs_of(pane, look.name, look.session)
            typed = run.typed[look.name, look.session]
            self.assertEqual(typed[:len(done)], done)
            self.assertGreaterEqual(look.waiting(), len(typed) - len(done))
            if told is None:
                self.assertEqual(look.picture(), [])
            else:
                self.assertLessEqual(told, pane.changes())
                self.assertGreaterEqual(told, known.get(look, 0))
                self.assertEqual(look.picture(), view(*pane.states[told], look._wide, look._high))
                known[look] = told
            if look.over():
                self.assertEqual(look.letters(), [])
        # Once a later session is heard, no elder one is.
        for pane in run.panes:
            latest = {}
            for name, session, _ in pane.presses:
                self.assertGreaterEqual(session, latest.get(name, 0))
                latest[name] = session

    def check_through(self, run):
        latest = {look.name: look for look in sorted(run.looks, key=lambda look: look.session)}
        there = []
        for name in sorted(latest):
            look = latest[name]
            if not look.has_left():
                there.append((name, look.session, look.pane))
                self.assertEqual((look.known(), look.waiting()), (run.panes[look.pane].changes(), 0))
                self.assertEqual(signs_of(run.panes[look.pane], name, look.session), run.typed[name, look.session])
        self.assertEqual(run.hall.looks(), there)

    def test_letters_of_all_kinds_of_luck(self):
        for seed in range(60):
            with self.subTest(seed=seed):
                run, known = Run(seed), {}
                for _ in range(150):
                    run.step()
                    self.check(run, known)
                waits = max([look.waiting() for look in run.looks], default=0)
                for _ in range(2 * ((waits + 19) // 20) + 10):
                    round_of(run.hall, run.looks)
                self.check(run, known)
                self.check_through(run)
                self.check_late_letters(run)

    def check_late_letters(self, run):
        """All letters once more, in another order, change nothing."""
        latest = {look.name: look for look in sorted(run.looks, key=lambda look: look.session)}
        looks = [look for look in latest.values() if not look.has_left()]
        state = state_of_hall(run.hall), [state_of_look(look) for look in looks]
        run.chance.shuffle(run.for_hall)
        run.chance.shuffle(run.for_looks)
        for _, _, text in run.for_hall:
            run.hall.hear(text)
        for name, text in run.for_looks:
            for look in looks:
                if look.name == name:
                    look.hear(text)
        self.assertEqual((state_of_hall(run.hall), [state_of_look(look) for look in looks]), state)


def step_by_chance(chance):
    name = chance.randint(0, 3)
    at = chance.randint(0, 8)
    return chance.choices([
        ("come", name, chance.randint(0, 2), chance.randint(1, 41), chance.randint(0, 21)),
        ("press", name, "".join(chance.choices(LINES, k=chance.randint(0, 12)))),
        ("size", name, chance.randint(1, 41), chance.randint(0, 21)), ("leave", name), ("gone", name), ("beat",),
        ("send",), ("carry", at), ("lose", at), ("twice", at), ("cut", at, chance.randint(0, 60)), ("settle",)],
        [3, 12, 1, 1, 1, 3, 8, 8, 3, 3, 3, 1])[0]


class WorldTest(unittest.TestCase):
    def test_worlds(self):
        for seed in range(40):
            chance = random.Random(seed)
            world, panes = recorded_world(chance.randint(1, 3))
            typed, at, left, taken = {}, {}, {}, []
            for _ in range(250):
                step = step_by_chance(chance)
                before = world.shown(), world.waits(), world.panes()
                try:
                    world.do(step)
                except HallError:
                    self.assertEqual((world.shown(), world.waits(), world.panes()), before)
                    continue
                taken.append(step)
                sessions = {name: session for name, session, _, _, _ in world.shown()}
                if step[0] == "come":
                    at[step[1], sessions[step[1]]] = step[2]
                if step[0] == "press":
                    who = step[1], sessions[step[1]]
                    typed[who] = typed.get(who, "") + step[2]
                if step[0] == "leave":
                    left[step[1], sessions[step[1]]] = True
                with self.subTest(seed=seed, step=len(taken)):
                    self.check(world, panes, typed, at)
                    if step == ("settle",):
                        self.check_settled(world, panes, at, left)
            self.assertEqual(read(written(taken)), taken)

    def check(self, world, panes, typed, at):
        for name, session, picture, known, waiting in world.shown():
            pane = panes[at[name, session]]
            self.assertGreaterEqual(waiting, len(typed.get((name, session), "")) - len(signs_of(pane, name, session)))
            if known is None:
                self.assertEqual(picture, [])
            else:
                pieces = view(*pane.states[known], 40, 20)
                self.assertEqual("".join(picture), "".join(pieces)[-len("".join(picture)):])
        for who, signs in typed.items():
            done = signs_of(panes[at[who]], *who)
            self.assertEqual(signs[:len(done)], done)

    def check_settled(self, world, panes, at, left):
        self.assertEqual(world.waits(), 0)
        for name, session, _, known, waiting in world.shown():
            if (name, session) not in left:
                self.assertEqual((known, waiting), (panes[at[name, session]].changes(), 0))
