import inspect
import unittest

from attachhall import letters, panes, pictures

METHODS = {
    "press": ["self", "look", "session", "sign"],
    "beat": ["self"],
    "rows": ["self"],
    "typed": ["self"],
    "line": ["self"],
    "job": ["self"],
    "changes": ["self"],
    "since": ["self", "number"],
}


def names_of(function):
    return list(inspect.signature(function).parameters)


class InterfaceTest(unittest.TestCase):
    def test_functions(self):
        for module, name, names in [
                (pictures, "view", ["rows", "line", "wide", "high"]),
                (letters, "packed", ["fields"]),
                (letters, "unpacked", ["text"])]:
            with self.subTest(name=name):
                function = getattr(module, name)
                self.assertEqual(function.__module__, module.__name__)
                self.assertEqual(names_of(function), names)

    def test_pane(self):
        self.assertEqual(panes.Pane.__module__, "attachhall.panes")
        self.assertEqual(names_of(panes.Pane), [])
        for name, names in METHODS.items():
            with self.subTest(name=name):
                self.assertEqual(names_of(vars(panes.Pane)[name]), names)
