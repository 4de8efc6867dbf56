"""What the letters between looks and the hall say."""

from attachhall.figures import numbers_of
from attachhall.letters import packed, unpacked

# Kinds of letters: a look tells the first two, the hall the last.
TYPED = "typed"
LEFT = "left"
SHOWN = "shown"
# No number of the program has more.
FIGURES = 20


def look_letter(kind, name, session, pane, first, signs):
    """Tell a look's letter: signs, and how many were typed ahead of them."""
    numbers = [str(number) for number in (name, session, pane, first)]
    return packed([kind, *numbers, signs])


def read_look_letter(text):
    """Tell what was told to look_letter; None of a text that is no such letter."""
    fields = unpacked(text)
    if fields is None or len(fields) != 6 or fields[0] not in (TYPED, LEFT):
        return None
    numbers = numbers_of(fields[1:5], FIGURES)
    if numbers is None:
        return None
    return (fields[0], *numbers, fields[5])


def hall_letter(name, session, pane, done, changes, line, rows):
    """Tell the hall's letter: signs done of the session, and all of the pane."""
    numbers = [str(number) for number in (name, session, pane, done, changes)]
    return packed([SHOWN, *numbers, line, *rows])


def read_hall_letter(text):
    """Tell what was told to hall_letter; None of a text that is no such letter."""
    fields = unpacked(text)
    if fields is None or len(fields) < 7 or fields[0] != SHOWN:
        return None
    numbers = numbers_of(fields[1:6], FIGURES)
    if numbers is None:
        return None
    return (*numbers, fields[6], fields[7:])
