"""The hall: panes, and the looks that are there."""

from attachhall.bounds import is_within
from attachhall.errors import BadCount
from attachhall.mail import LEFT, hall_letter, read_look_letter
from attachhall.panes import MOST_PANES, Pane


class Seat:
    """What the hall knows of the latest session of a name."""

    def __init__(self, session, pane):
        self.session = session
        self.pane = pane
        self.done = 0
        self.left = False


class Hall:
    """Holds the panes, and hears and tells the letters about them."""

    def __init__(self, many):
        if not is_within(many, 1, MOST_PANES):
            raise BadCount(f"a hall has 1 to {MOST_PANES} panes, not {many}")
        self._panes = [Pane() for _ in range(many)]
        # By names; a session that left stays, so that no letter of it counts.
        self._seats = {}

    def beat(self):
        """Let each pane go on."""
        for pane in self._panes:
            pane.beat()

    def hear(self, text):
        """Hear a letter from a look; another text changes nothing."""
        said = read_look_letter(text)
        if said is None:
            return
        kind, name, session, pane, first, signs = said
        seat = self._seat(name, session, pane)
        if seat is None:
            return
        if kind == LEFT:
            seat.left = True
        else:
            self._do_signs(name, seat, first, signs)

    def letters(self):
        """Tell a letter for each look that is there, each with its name."""
        return [(name, self._letter(name, self._seats[name])) for name in self._names()]

    def panes(self):
        """Tell the rows, the line, the job and the changes of each pane."""
        return [(pane.rows(), pane.line(), pane.job(), pane.changes()) for pane in self._panes]

    def typed(self, pane):
        """Tell what was typed into a pane."""
        if not is_within(pane, 0, len(self._panes) - 1):
            raise BadCount(f"there is no pane {pane}")
        return self._panes[pane].typed()

    def looks(self):
        """Tell the name, the session and the pane of each look that is there."""
        return [(name, self._seats[name].session, self._seats[name].pane)
                for name in self._names()]

    def _names(self):
        return [name for name in sorted(self._seats) if not self._seats[name].left]

    def _seat(self, name, session, pane):
        """Tell the seat of a letter's look; None if the letter does not count."""
        if pane >= len(self._panes):
            return None
        seat = self._seats.get(name)
        if seat is None or session > seat.session:
            seat = Seat(session, pane)
            self._seats[name] = seat
        if session < seat.session or seat.left or pane != seat.pane:
            return None
        return seat

    def _do_signs(self, name, seat, first, signs):
        # Ahead of these, signs are missing that a letter to come brings.
        if first > seat.done:
            return
        # What stands ahead in the letter is done: it came by another letter.
        for sign in signs[seat.done - first:]:
            self._panes[seat.pane].press(name, seat.session, sign)
            seat.done += 1

    def _letter(self, name, seat):
        pane = self._panes[seat.pane]
        return hall_letter(name, seat.session, seat.pane, seat.done,
                           pane.changes(), pane.line(), pane.rows())
