"""Steps of a world as texts: a row for each step."""

from attachhall.errors import BadText
from attachhall.figures import number_of, numbers_of
from attachhall.panes import wrong_place

PRESS = "press"
# How many numbers stand behind each word; of press signs stand last.
NUMBERS = {"come": 4, "size": 3, "leave": 1, "gone": 1, "beat": 0, "send": 0,
           "carry": 1, "lose": 1, "twice": 1, "cut": 2, "settle": 0}
FIGURES = 6


def row_of(step):
    """Tell the row of a step."""
    return " ".join([str(part) for part in step])


def written(steps):
    """Tell the text of a list of steps."""
    return "\n".join([row_of(step) for step in steps])


def press_of(row):
    """Tell the step of press that stands in a row; None if none does."""
    # The signs may have blanks, so that only the first two part words.
    parts = row.split(" ", 2)
    if len(parts) < 3:
        return None
    word, figures, signs = parts
    name = number_of(figures, FIGURES)
    if name is None or wrong_place(signs) is not None:
        return None
    return (word, name, signs)


def step_of(row):
    """Tell the step that stands in a row; None if none does."""
    word, *parts = row.split(" ")
    if word == PRESS:
        return press_of(row)
    numbers = numbers_of(parts, FIGURES)
    if numbers is None or NUMBERS.get(word) != len(numbers):
        return None
    return (word, *numbers)


def read(text):
    """Tell the list of steps of a text."""
    # No steps are the empty text, but an empty row is no step.
    if text == "":
        return []
    steps = []
    for at, row in enumerate(text.split("\n")):
        step = step_of(row)
        if step is None:
            raise BadText(at)
        steps.append(step)
    return steps
