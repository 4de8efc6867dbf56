"""Halls whose panes keep all that was typed and all that they had, for the tests."""

from unittest import mock

from attachhall.hall import Hall
from attachhall.panes import Pane
from attachhall.worlds import World


class Recorder(Pane):
    """A pane that keeps each press, and its rows and line at each change."""

    made = []

    def __init__(self):
        super().__init__()
        self.presses = []
        self.states = [([], "")]
        Recorder.made.append(self)

    def press(self, look, session, sign):
        before = self.changes()
        super().press(look, session, sign)
        self.presses.append((look, session, sign))
        self.keep(before)

    def beat(self):
        before = self.changes()
        super().beat()
        self.keep(before)

    def keep(self, before):
        for kind, text in self.since(before):
            rows, line = self.states[-1]
            if kind == "row":
                rows = (rows + [text])[-40:]
            elif kind == "line":
                line = text
            else:
                rows = []
            self.states.append((rows, line))
        assert self.states[-1] == (self.rows(), self.line())


def recorded(make, many):
    """What is made of so many panes, and these panes."""
    Recorder.made = []
    with mock.patch("attachhall.hall.Pane", Recorder):
        made = make(many)
    return made, Recorder.made


def recorded_hall(many):
    return recorded(Hall, many)


def recorded_world(many):
    return recorded(World, many)


def signs_of(pane, name, session):
    """All signs of a session that were done at a recorded pane, in turn."""
    return "".join(sign for look, number, sign in pane.presses if (look, number) == (name, session))


def state_of_look(look):
    return look.known(), look.picture(), look.waiting(), look.over(), look.letters()


def state_of_hall(hall):
    panes = hall.panes()
    return panes, [hall.typed(number) for number in range(len(panes))], hall.looks(), hall.letters()


def round_of(hall, looks):
    """One round: each look's letters, then the hall's, all heard, the hall's by all of a name."""
    to_hall = [text for look in looks for text in look.letters()]
    told = hall.letters()
    for text in to_hall:
        hall.hear(text)
    hear_told(told, looks)


def hear_told(told, looks):
    for name, text in told:
        for look in looks:
            if look.name == name:
                look.hear(text)


def joined(hall, *looks):
    """Let the hall hear each look, and each look hear the hall."""
    for look in looks:
        for text in look.letters():
            hall.hear(text)
    hear_told(hall.letters(), looks)
