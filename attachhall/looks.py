"""A look: what a hand sees of a pane from afar, and types into it."""

from attachhall.bounds import is_within
from attachhall.errors import BadLook, BadSign, NoLook
from attachhall.mail import LEFT, TYPED, look_letter, read_hall_letter
from attachhall.panes import MOST_PANES, wrong_place
from attachhall.pictures import check_size, view

NAMES = 4
SESSIONS = 10 ** 5
# So that no letter has more signs than a text may have.
LETTER_SIGNS = 1000


def check_look(name, session, pane):
    """Refuse a name, a session or a pane's number that no look has."""
    if not is_within(name, 0, NAMES - 1):
        raise BadLook(f"no name of a look: {name}")
    if not is_within(session, 1, SESSIONS):
        raise BadLook(f"no session of a look: {session}")
    if not is_within(pane, 0, MOST_PANES - 1):
        raise BadLook(f"no pane of a look: {pane}")


class Look:
    """One session of a hand at a pane."""

    def __init__(self, name, session, pane, wide, high):
        check_look(name, session, pane)
        check_size(wide, high)
        self.name = name
        self.session = session
        self.pane = pane
        self._wide = wide
        self._high = high
        self._done = 0
        self._signs = ""
        self._known = None
        self._rows = []
        self._line = ""
        self._left = False
        self._over = False

    def press(self, signs):
        """Type signs; they wait until the hall tells that they are done."""
        if self._left or self._over:
            raise NoLook("a look that left, or is over, types no more")
        place = wrong_place(signs)
        if place is not None:
            raise BadSign(place)
        self._signs += signs

    def resize(self, wide, high):
        """Take another size."""
        check_size(wide, high)
        self._wide = wide
        self._high = high

    def leave(self):
        """Let the hand leave; what waits is told no more."""
        self._left = True

    def hear(self, text):
        """Hear a letter from the hall; another text changes nothing."""
        said = read_hall_letter(text)
        # Once it is over, what comes late is of no use to it.
        if said is None or self._over:
            return
        name, session, pane, done, changes, line, rows = said
        if name != self.name:
            return
        if session > self.session:
            self._over = True
        elif session == self.session and pane == self.pane:
            self._hear_done(done)
            self._hear_pane(changes, line, rows)

    def letters(self):
        """Tell the letters for the hall."""
        if self._over:
            return []
        if self._left:
            return [self._letter(LEFT, 0, "")]
        # One is told also if nothing waits: the hall hears that the look is there.
        starts = range(0, max(len(self._signs), 1), LETTER_SIGNS)
        return [self._letter(TYPED, self._done + at, self._signs[at:at + LETTER_SIGNS])
                for at in starts]

    def picture(self):
        """Tell what the look shows."""
        if self._known is None:
            return []
        return view(self._rows, self._line, self._wide, self._high)

    def known(self):
        """Tell how many changes of the pane the look knows; None at first."""
        return self._known

    def waiting(self):
        """Tell how many signs were typed that are not known to be done."""
        return len(self._signs)

    def over(self):
        """Tell whether the hall has a later session of the name."""
        return self._over

    def has_left(self):
        """Tell whether the hand left."""
        return self._left

    def _letter(self, kind, first, signs):
        return look_letter(kind, self.name, self.session, self.pane, first, signs)

    def _hear_done(self, done):
        # A letter that comes late tells of fewer signs than are known to be done.
        if done > self._done:
            self._signs = self._signs[done - self._done:]
            self._done = done

    def _hear_pane(self, changes, line, rows):
        if self._known is None or changes > self._known:
            self._known = changes
            self._line = line
            self._rows = rows
