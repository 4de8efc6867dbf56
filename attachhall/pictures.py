"""What a look of a given size shows of a pane."""

from attachhall.bounds import is_within
from attachhall.errors import BadSize

NARROWEST = 2
WIDEST = 40
LOWEST = 1
HIGHEST = 20


def check_size(wide, high):
    """Refuse a size that no picture has."""
    if not is_within(wide, NARROWEST, WIDEST):
        raise BadSize(f"{wide} is not {NARROWEST} to {WIDEST} wide")
    if not is_within(high, LOWEST, HIGHEST):
        raise BadSize(f"{high} is not {LOWEST} to {HIGHEST} high")


def cut(row, wide):
    """Tell the pieces of a row, each as wide as the picture but the last."""
    # An empty row still takes its place in the picture: it has one piece.
    signs = max(len(row), 1)
    return [row[at:at + wide] for at in range(0, signs, wide)]


def view(rows, line, wide, high):
    """Tell the last pieces of the rows and of the line behind its mark."""
    check_size(wide, high)
    pieces = []
    for row in rows:
        pieces.extend(cut(row, wide))
    pieces.extend(cut("> " + line, wide))
    return pieces[-high:]
