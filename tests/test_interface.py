import inspect
import unittest

from attachhall import hall, letters, looks, notes, panes, pictures, worlds

FUNCTIONS = [
    (pictures, "view", ["rows", "line", "wide", "high"]),
    (letters, "packed", ["fields"]),
    (letters, "unpacked", ["text"]),
    (worlds, "played", ["many", "steps"]),
    (notes, "written", ["steps"]),
    (notes, "read", ["text"]),
]
# Each class with what it is made of, and the arguments of its methods.
CLASSES = [
    (panes, "Pane", [], {
        "press": ["look", "session", "sign"], "beat": [], "rows": [], "typed": [], "line": [],
        "job": [], "changes": [], "since": ["number"]}),
    (looks, "Look", ["name", "session", "pane", "wide", "high"], {
        "press": ["signs"], "resize": ["wide", "high"], "leave": [], "hear": ["text"],
        "letters": [], "picture": [], "known": [], "waiting": [], "over": []}),
    (hall, "Hall", ["many"], {
        "beat": [], "hear": ["text"], "letters": [], "panes": [], "typed": ["pane"], "looks": []}),
    (worlds, "World", ["many"], {
        "do": ["step"], "panes": [], "typed": ["pane"], "shown": [], "waits": []}),
]


def names_of(function):
    return list(inspect.signature(function).parameters)


class InterfaceTest(unittest.TestCase):
    def test_functions(self):
        for module, name, names in FUNCTIONS:
            with self.subTest(name=name):
                function = getattr(module, name)
                self.assertEqual(function.__module__, module.__name__)
                self.assertEqual(names_of(function), names)

    def test_classes(self):
        for module, name, names, methods in CLASSES:
            made = getattr(module, name)
            self.assertEqual(made.__module__, module.__name__)
            self.assertEqual(names_of(made), names)
            for method, arguments in methods.items():
                with self.subTest(name=name, method=method):
                    self.assertEqual(names_of(vars(made)[method]), ["self"] + arguments)

    def test_kinds_of_what_is_told(self):
        world = worlds.played(1, [("come", 0, 0, 20, 5), ("press", 0, "many 2;"), ("settle",)])
        for numbers in [world.panes()[0][2], world.panes()[0][3:], world.typed(0)[0][:2],
                        world.shown()[0][:2], world.shown()[0][3:], [world.waits()]]:
            self.assertEqual([number.__class__ for number in numbers], [int] * len(numbers))
        for row in [*world.panes(), *world.typed(0), *world.shown()]:
            self.assertIsInstance(row, tuple)
        told = hall.Hall(1)
        look = looks.Look(0, 1, 0, 20, 5)
        told.hear(look.letters()[0])
        for row in told.looks() + told.letters():
            self.assertIsInstance(row, tuple)
        self.assertIsInstance(notes.read("cut 1 2")[0], tuple)
