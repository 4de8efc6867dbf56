import unittest

from attachhall.errors import BadCount, BadLook, BadSign, BadSize, HallError, NoLook
from attachhall.panes import Pane
from attachhall.pictures import view
from attachhall.worlds import World, played
from recorder import recorded_world, signs_of

FAR = 10 ** 19


def state_of(world, many=1):
    return (world.panes(), [world.typed(pane) for pane in range(many)], world.shown(), world.waits())


def doing(world, *steps):
    for step in steps:
        world.do(step)
    return world


def world_with_letters():
    """A world on whose road lie a look's letter, then the hall's, for name 1 at pane 0."""
    world = played(1, [("come", 1, 0, 20, 5), ("press", 1, "ab"), ("settle",), ("press", 1, "cd"), ("send",)])
    assert world.waits() == 2
    return world


class NewWorldTest(unittest.TestCase):
    def test_new_worlds(self):
        for many in [1, 2, 3]:
            with self.subTest(many=many):
                self.assertEqual(state_of(World(many), many), ([([], "", None, 0)] * many, [[]] * many, [], 0))

    def test_no_such_count(self):
        for many in [0, -1, 4, FAR]:
            with self.subTest(many=many):
                with self.assertRaises(BadCount):
                    World(many)
                with self.assertRaises(BadCount):
                    played(many, [])

    def test_no_such_pane(self):
        for pane in [-1, 2, FAR]:
            with self.subTest(pane=pane):
                with self.assertRaises(BadCount):
                    World(2).typed(pane)

    def test_true_and_false_are_no_numbers_of_panes(self):
        for wrong in [True, False]:
            with self.subTest(wrong=wrong):
                for make in [World, lambda many: played(many, []), World(1).typed, World(3).typed]:
                    with self.assertRaises(BadCount):
                        make(wrong)

    def test_each_step_tells_none(self):
        world = World(1)
        for step in [("come", 0, 0, 20, 5), ("press", 0, "a"), ("size", 0, 2, 1), ("send",), ("beat",),
                     ("twice", 0), ("cut", 0, 3), ("lose", 0), ("carry", 1), ("settle",), ("leave", 0), ("gone", 0)]:
            with self.subTest(step=step):
                self.assertIsNone(world.do(step))


class ComeTest(unittest.TestCase):
    def test_looks_come(self):
        world = played(3, [("come", 3, 2, 2, 1), ("come", 0, 0, 40, 20), ("come", 1, 1, 20, 5)])
        self.assertEqual(world.shown(), [(0, 1, [], None, 0), (1, 1, [], None, 0), (3, 1, [], None, 0)])
        self.assertEqual(world.waits(), 0)
        self.assertEqual(world.panes(), [([], "", None, 0)] * 3)

    def test_the_next_session_of_the_name(self):
        world = played(1, [("come", 0, 0, 20, 5), ("press", 0, "abc"), ("come", 0, 0, 20, 5)])
        self.assertEqual(world.shown(), [(0, 2, [], None, 0)])
        doing(world, ("gone", 0), ("come", 0, 0, 20, 5), ("come", 1, 0, 20, 5))
        self.assertEqual([row[:2] for row in world.shown()], [(0, 3), (1, 1)])
        doing(world, ("leave", 0), ("come", 0, 0, 20, 5))
        self.assertEqual([row[:2] for row in world.shown()], [(0, 4), (1, 1)])

    def test_refused(self):
        for many, step, refusal in [
                (1, ("come", 4, 0, 20, 5), BadLook), (1, ("come", -1, 0, 20, 5), BadLook),
                (1, ("come", FAR, 0, 20, 5), BadLook), (1, ("come", 0, 1, 20, 5), BadLook),
                (2, ("come", 0, 2, 20, 5), BadLook), (3, ("come", 0, 3, 20, 5), BadLook),
                (1, ("come", 0, -1, 20, 5), BadLook), (1, ("come", 0, FAR, 20, 5), BadLook),
                (1, ("come", 0, 1, 1, 5), BadLook), (1, ("come", 4, 0, 20, 0), BadLook),
                (1, ("come", 0, 0, 1, 5), BadSize), (1, ("come", 0, 0, 41, 5), BadSize),
                (1, ("come", 0, 0, 20, 0), BadSize), (1, ("come", 0, 0, 20, 21), BadSize),
                (1, ("come", True, 0, 20, 5), BadLook), (1, ("come", False, 0, 20, 5), BadLook),
                (1, ("come", 0, True, 20, 5), BadLook), (1, ("come", 0, False, 20, 5), BadLook),
                (2, ("come", 0, True, 20, 5), BadLook), (3, ("come", 0, True, True, 5), BadLook),
                (1, ("come", False, 0, 1, 5), BadLook), (1, ("come", 0, False, 20, 0), BadLook),
                (1, ("come", 0, 0, True, 5), BadSize), (1, ("come", 0, 0, False, 5), BadSize),
                (1, ("come", 0, 0, 20, True), BadSize), (1, ("come", 0, 0, 20, False), BadSize)]:
            with self.subTest(many=many, step=step):
                world = played(many, [("come", 0, 0, 20, 5), ("press", 0, "a"), ("settle",)])
                state = state_of(world, many)
                with self.assertRaises(HallError) as caught:
                    world.do(step)
                self.assertIs(caught.exception.__class__, refusal)
                self.assertEqual(state_of(world, many), state)
                doing(world, ("come", 0, 0, 20, 5))
                self.assertEqual(world.shown(), [(0, 2, [], None, 0)])


class LookStepsTest(unittest.TestCase):
    def test_no_look_of_the_name(self):
        for name in [0, 2, 4, -1, FAR]:
            for step in [("press", name, "a"), ("press", name, "A"), ("press", name, ""), ("size", name, 20, 5),
                         ("size", name, 1, 99), ("leave", name), ("gone", name)]:
                with self.subTest(step=step):
                    world = played(1, [("come", 1, 0, 20, 5), ("come", 2, 0, 20, 5), ("gone", 2)])
                    state = state_of(world)
                    with self.assertRaises(NoLook):
                        world.do(step)
                    self.assertEqual(state_of(world), state)

    def test_true_and_false_are_no_names(self):
        for name in [True, False]:
            for step in [("press", name, "a"), ("press", name, "A"), ("size", name, 20, 5), ("size", name, True, 99),
                         ("leave", name), ("gone", name)]:
                with self.subTest(step=step):
                    world = played(1, [("come", 0, 0, 20, 5), ("come", 1, 0, 20, 5), ("settle",)])
                    state = state_of(world)
                    with self.assertRaises(NoLook):
                        world.do(step)
                    self.assertEqual(state_of(world), state)
                    # None of them left unseen.
                    doing(world, ("press", 0, "a"), ("press", 1, "b"))

    def test_press(self):
        world = played(1, [("come", 1, 0, 20, 5), ("press", 1, "ab"), ("press", 1, ""), ("press", 1, "c")])
        self.assertEqual(world.shown(), [(1, 1, [], None, 3)])
        self.assertEqual(world.typed(0), [])
        with self.assertRaises(BadSign) as caught:
            world.do(("press", 1, "ab?c!"))
        self.assertEqual(caught.exception.place, 2)
        doing(world, ("settle",))
        self.assertEqual(world.typed(0), [(1, 1, "a"), (1, 1, "b"), (1, 1, "c")])
        self.assertEqual(world.shown(), [(1, 1, ["> abc"], 3, 0)])

    def test_size(self):
        world = played(1, [("come", 1, 0, 20, 5), ("press", 1, "abc"), ("settle",), ("size", 1, 2, 2)])
        self.assertEqual(world.shown(), [(1, 1, ["ab", "c"], 3, 0)])
        for size in [(1, 2), (41, 2), (2, 0), (2, 21), (True, 2), (False, 2), (2, True), (2, False)]:
            with self.assertRaises(BadSize):
                world.do(("size", 1, *size))
        self.assertEqual(world.shown(), [(1, 1, ["ab", "c"], 3, 0)])

    def test_leave(self):
        world = played(1, [("come", 1, 0, 20, 5), ("press", 1, "ab"), ("settle",), ("press", 1, "cd"), ("leave", 1)])
        self.assertEqual(world.shown(), [(1, 1, ["> ab"], 2, 2)])
        with self.assertRaises(NoLook):
            world.do(("press", 1, "A"))
        doing(world, ("settle",), ("send",))
        self.assertEqual(world.shown(), [(1, 1, ["> ab"], 2, 2)])
        self.assertEqual(world.panes()[0][1], "ab")
        # The look tells that it left; the hall has no look to tell anything.
        self.assertEqual(world.waits(), 1)

    def test_gone(self):
        world = world_with_letters()
        doing(world, ("gone", 1))
        self.assertEqual(world.shown(), [])
        self.assertEqual(world.waits(), 2)
        doing(world, ("carry", 2))
        self.assertEqual(world.panes()[0][1], "abcd")
        # The hall has not heard that it went, and tells letters for it.
        doing(world, ("send",))
        self.assertEqual(world.waits(), 1)
        doing(world, ("carry", 1))
        self.assertEqual((world.shown(), world.waits()), ([], 0))


class RoadTest(unittest.TestCase):
    def test_beat(self):
        world = played(2, [("come", 0, 0, 20, 5), ("come", 1, 1, 20, 5), ("press", 0, "many 2;"),
                           ("press", 1, "many 3;"), ("settle",), ("beat",), ("beat",)])
        self.assertEqual([pane[2] for pane in world.panes()], [None, (2, 3)])
        self.assertEqual(world.panes()[0][0], ["> many 2", "1 of 2", "2 of 2"])

    def test_send_lays_the_looks_letters_then_the_halls(self):
        world = played(1, [("come", 2, 0, 20, 5), ("come", 0, 0, 20, 5), ("send",)])
        self.assertEqual(world.waits(), 2)
        doing(world, ("carry", 2), ("press", 2, "x"), ("press", 0, "y"), ("send",))
        self.assertEqual(world.waits(), 4)
        doing(world, ("carry", 1))
        self.assertEqual(world.typed(0), [(0, 1, "y")])
        doing(world, ("carry", 1))
        self.assertEqual(world.typed(0), [(0, 1, "y"), (2, 1, "x")])
        self.assertEqual([row[3] for row in world.shown()], [None, None])
        # What the hall told then stands ahead of what it heard since.
        doing(world, ("carry", 1))
        self.assertEqual(world.shown(), [(0, 1, ["> "], 0, 1), (2, 1, [], None, 1)])
        doing(world, ("carry", 1))
        self.assertEqual(world.shown(), [(0, 1, ["> "], 0, 1), (2, 1, ["> "], 0, 1)])

    def test_carry(self):
        for many, waits, line in [(0, 2, "ab"), (1, 1, "abcd"), (2, 0, "abcd"), (3, 0, "abcd"), (FAR, 0, "abcd"),
                                  (-1, 2, "ab"), (-FAR, 2, "ab")]:
            with self.subTest(many=many):
                world = world_with_letters()
                doing(world, ("carry", many))
                self.assertEqual(world.waits(), waits)
                self.assertEqual(world.panes()[0][1], line)

    def test_carry_brings_the_first_ones(self):
        world = played(1, [("come", 0, 0, 20, 5), ("press", 0, "a"), ("send",), ("press", 0, "b"), ("send",)])
        doing(world, ("carry", 1))
        self.assertEqual((world.panes()[0][1], world.waits()), ("a", 1))
        doing(world, ("carry", 1))
        self.assertEqual((world.panes()[0][1], world.waits()), ("ab", 0))

    def test_letters_for_a_name_are_heard_by_the_look_that_there_is(self):
        world = world_with_letters()
        doing(world, ("come", 1, 0, 20, 5), ("carry", 2))
        self.assertEqual(world.panes()[0][1], "abcd")
        self.assertEqual(world.shown(), [(1, 2, [], None, 0)])
        doing(world, ("settle",))
        self.assertEqual(world.shown(), [(1, 2, ["> abcd"], 4, 0)])

    def test_lose(self):
        for at, waits, line in [(0, 1, "ab"), (1, 1, "abcd"), (2, 2, "abcd"), (FAR, 2, "abcd"), (-1, 2, "abcd"),
                                (-2, 2, "abcd")]:
            with self.subTest(at=at):
                world = world_with_letters()
                doing(world, ("lose", at))
                self.assertEqual(world.waits(), waits)
                doing(world, ("carry", 2))
                self.assertEqual(world.panes()[0][1], line)

    def test_true_and_false_are_no_letters(self):
        for at in [True, False]:
            for step in [("lose", at), ("twice", at), ("cut", at, 0)]:
                with self.subTest(step=step):
                    world = doing(world_with_letters(), step)
                    self.assertEqual(state_of(world), state_of(world_with_letters()))
                    doing(world, ("carry", 2))
                    self.assertEqual(state_of(world), state_of(doing(world_with_letters(), ("carry", 2))))

    def test_twice(self):
        for at, line in [(0, "abcd"), (1, "ab"), (2, "ab"), (FAR, "ab"), (-1, "ab"), (-2, "ab")]:
            with self.subTest(at=at):
                world = world_with_letters()
                doing(world, ("twice", at))
                self.assertEqual((world.panes()[0][1], world.waits()), (line, 2))
                doing(world, ("twice", at), ("carry", 2))
                self.assertEqual(world.panes()[0][1], "abcd")
                self.assertEqual(len(world.typed(0)), 4)

    def test_twice_for_a_look(self):
        world = played(1, [("come", 0, 0, 20, 5), ("press", 0, "a"), ("send",), ("carry", 1), ("send",)])
        self.assertEqual(world.shown(), [(0, 1, [], None, 1)])
        doing(world, ("twice", 1))
        self.assertEqual(world.shown(), [(0, 1, ["> a"], 1, 0)])
        doing(world, ("gone", 0), ("twice", 1))
        self.assertEqual((world.shown(), world.waits()), ([], 2))

    def test_cut(self):
        for at, many, line in [(0, 0, "ab"), (0, 5, "ab"), (0, -1, "ab"), (0, -FAR, "ab"), (0, FAR, "abcd"),
                               (0, 1500, "abcd"), (1, 0, "abcd"), (2, 0, "abcd"), (FAR, 0, "abcd"),
                               (-1, 0, "abcd"), (-2, 0, "abcd")]:
            with self.subTest(at=at, many=many):
                world = world_with_letters()
                doing(world, ("cut", at, many))
                self.assertEqual(world.waits(), 2)
                doing(world, ("carry", 2))
                self.assertEqual(world.panes()[0][1], line)

    def test_cut_for_a_look(self):
        for many in [0, 1, 10]:
            world = played(1, [("come", 0, 0, 20, 5), ("press", 0, "a"), ("send",), ("carry", 1), ("send",)])
            doing(world, ("cut", 1, many), ("carry", 2))
            self.assertEqual(world.shown(), [(0, 1, [], None, 1)])


class SettleTest(unittest.TestCase):
    def test_some_hundreds_of_signs(self):
        for signs in ["say hello world;many 7;abc<< d" * 20, "a" * 501, "clear;" * 200, "12345678;;" * 140]:
            world, (pane,) = recorded_world(1)
            doing(world, ("come", 2, 0, 30, 20), ("press", 2, signs), ("settle",))
            with self.subTest(signs=signs):
                self.assertEqual(signs_of(pane, 2, 1), signs)
                self.assertEqual(world.typed(0), [(2, 1, sign) for sign in signs[-100:]])
                rows, line, _, changes = world.panes()[0]
                self.assertEqual(world.shown(), [(2, 1, view(rows, line, 30, 20), changes, 0)])
                self.assertEqual(world.waits(), 0)

    def test_many_looks_at_once(self):
        world, panes = recorded_world(2)
        for name in range(4):
            doing(world, ("come", name, name // 2, 40, 20), ("press", name, f"say {name};" * (60 + name)))
        doing(world, ("settle",))
        for name in range(4):
            self.assertEqual(signs_of(panes[name // 2], name, 1), f"say {name};" * (60 + name))
        changes = [pane[3] for pane in world.panes()]
        self.assertEqual([row[3:] for row in world.shown()], [(changes[name // 2], 0) for name in range(4)])

    def test_more_presses_than_one_text_holds(self):
        world, (pane,) = recorded_world(1)
        doing(world, ("come", 0, 0, 20, 5))
        for _ in range(40):
            doing(world, ("press", 0, "say abcdefgh;" * 100))
        doing(world, ("settle",))
        self.assertEqual(signs_of(pane, 0, 1), "say abcdefgh;" * 4000)
        self.assertEqual(world.shown()[0][4], 0)

    def test_once_at_least(self):
        world = world_with_letters()
        doing(world, ("settle",), ("send",), ("send",))
        self.assertEqual(world.waits(), 4)
        doing(world, ("settle",))
        self.assertEqual(world.waits(), 0)
        empty = World(1)
        doing(empty, ("settle",))
        self.assertEqual(state_of(empty), state_of(World(1)))

    def test_it_hears_what_lay_on_the_road(self):
        world = world_with_letters()
        doing(world, ("gone", 1), ("settle",))
        self.assertEqual((world.panes()[0][1], world.waits()), ("abcd", 0))

    def test_a_look_that_left_is_no_more_there(self):
        world = played(1, [("come", 0, 0, 20, 5), ("settle",), ("leave", 0), ("settle",), ("gone", 0), ("send",)])
        self.assertEqual(world.waits(), 0)

    def test_a_look_that_left_unheard(self):
        world = played(1, [("come", 0, 0, 20, 5), ("settle",), ("leave", 0), ("gone", 0), ("come", 1, 0, 20, 5),
                           ("press", 1, "a"), ("settle",)])
        self.assertEqual(world.shown(), [(1, 1, ["> a"], 1, 0)])
        doing(world, ("come", 0, 0, 20, 5), ("settle",))
        self.assertEqual(world.shown(), [(0, 2, ["> a"], 1, 0), (1, 1, ["> a"], 1, 0)])

    def test_settled_worlds_stay(self):
        world = played(1, [("come", 0, 0, 20, 5), ("press", 0, "say hi;a"), ("settle",)])
        state = state_of(world)
        for _ in range(3):
            doing(world, ("settle",))
            self.assertEqual(state_of(world), state)


class ToldTest(unittest.TestCase):
    def test_panes_go_on_the_same_whoever_looks(self):
        alone, world = Pane(), World(1)
        doing(world, ("come", 0, 0, 20, 5), ("press", 0, "many 9;"), ("settle",))
        for sign in "many 9;":
            alone.press(0, 1, sign)
        for name in [1, 2, 0, 3, 1, 2, 0]:
            doing(world, ("come", name, 0, 20, 5), ("send",), ("beat",), ("carry", 2), ("leave", name), ("settle",))
            alone.beat()
            self.assertEqual(world.panes(), [(alone.rows(), alone.line(), alone.job(), alone.changes())])
        self.assertEqual(world.typed(0), alone.typed())

    def test_what_is_told_may_be_changed(self):
        world = world_with_letters()
        state = state_of(world)
        panes, typed, shown = world.panes(), world.typed(0), world.shown()
        panes[0][0].append("x")
        shown[0][2].append("x")
        for told in [panes, typed, shown]:
            told.clear()
        self.assertEqual(state_of(world), state)
        self.assertEqual(state_of(world), state)

    def test_played(self):
        steps = [("come", 0, 0, 20, 5), ("press", 0, "say hi;"), ("settle",), ("beat",)]
        kept = list(steps)
        world = played(2, steps)
        self.assertEqual(steps, kept)
        self.assertIsInstance(world, World)
        steps.clear()
        self.assertEqual(state_of(world, 2), state_of(doing(World(2), *kept), 2))
        self.assertEqual(world.panes()[0][0], ["> say hi", "hi"])
        self.assertEqual(state_of(played(3, []), 3), state_of(World(3), 3))

    def test_played_refuses_as_the_step_does(self):
        for step, refusal in [(("gone", 1), NoLook), (("press", 0, "A"), BadSign), (("come", 0, 1, 1, 1), BadLook)]:
            with self.subTest(step=step):
                with self.assertRaises(refusal):
                    played(1, [("come", 0, 0, 20, 5), step])
