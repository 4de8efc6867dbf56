"""A pane: rows, a line that is typed, and perhaps a job that goes on by beats."""

from attachhall.bounds import is_within
from attachhall.errors import BadSign
from attachhall.figures import number_of

# A hall has no more panes.
MOST_PANES = 3
KEYS = "abcdefghijklmnopqrstuvwxyz0123456789 <;"
LINE_SIGNS = 30
ROWS_KEPT = 40
TYPED_KEPT = 100
CHANGES_KEPT = 30
SAY = "say "
MANY = "many "


def wrong_place(signs):
    """Tell the place of the first sign that cannot be typed; None if all can."""
    for place, sign in enumerate(signs):
        if sign not in KEYS:
            return place
    return None


def job_size(line):
    """Tell how many rows the job has that a line begins, 0 if it begins none."""
    if not line.startswith(MANY):
        return 0
    # A number with a needless 0 is none; nor is one of more figures than 99 has.
    return number_of(line.removeprefix(MANY), 2) or 0


class Pane:
    """What hands look at and type into."""

    def __init__(self):
        self._rows = []
        self._line = ""
        self._job = None
        self._typed = []
        self._changes = 0
        self._latest = []

    def press(self, look, session, sign):
        """Type one sign, for a session of a look."""
        if len(sign) != 1 or wrong_place(sign) is not None:
            raise BadSign(0)
        self._typed.append((look, session, sign))
        del self._typed[:-TYPED_KEPT]
        if sign == ";":
            self._do_line()
        elif sign == "<":
            self._set_line(self._line[:-1])
        elif len(self._line) < LINE_SIGNS:
            self._set_line(self._line + sign)

    def beat(self):
        """Let the job go on by a row, if there is one."""
        if self._job is None:
            return
        before, size = self._job
        number = before + 1
        self._add_row(f"{number} of {size}")
        self._job = (number, size) if number < size else None

    def rows(self):
        """Tell the last rows that came."""
        return list(self._rows)

    def line(self):
        """Tell the line that is typed."""
        return self._line

    def job(self):
        """Tell how many rows came of the job and how many in all; None for no job."""
        return self._job

    def changes(self):
        """Tell how many changes there were."""
        return self._changes

    def typed(self):
        """Tell the last signs that were typed, each with its look and session."""
        return list(self._typed)

    def since(self, number):
        """Tell the changes behind so many; None if they are not all kept."""
        first = self._changes - len(self._latest)
        if not is_within(number, first, self._changes):
            return None
        return self._latest[number - first:]

    def _do_line(self):
        line = self._line
        self._add_row("> " + line)
        self._set_line("")
        size = job_size(line)
        if line.startswith(SAY):
            self._add_row(line.removeprefix(SAY))
        elif line == "clear":
            self._clear_rows()
        elif line == "stop" and self._job is not None:
            self._job = None
        elif size > 0:
            self._job = (0, size)
        elif line != "":
            self._add_row("? " + line)

    def _add_row(self, row):
        self._rows.append(row)
        del self._rows[:-ROWS_KEPT]
        self._add_change("row", row)

    def _clear_rows(self):
        self._rows = []
        self._add_change("clear", "")

    def _set_line(self, line):
        # A line that stays as it is makes no change.
        if line == self._line:
            return
        self._line = line
        self._add_change("line", line)

    def _add_change(self, kind, text):
        self._changes += 1
        self._latest.append((kind, text))
        del self._latest[:-CHANGES_KEPT]
