"""Letters: texts that tell fields, and show whether they came whole."""

from attachhall.errors import BadFields

BETWEEN = "|"
# A sign's number in the sum is its place here, from 1.
SIGNS = "abcdefghijklmnopqrstuvwxyz0123456789 >?<;|"
SUM_TIMES = 61
SUM_REST = 9973


def sum_of(body):
    """Tell the sum by which a body is known to be whole."""
    total = 0
    for sign in body:
        total = (total * SUM_TIMES + SIGNS.index(sign) + 1) % SUM_REST
    return total


def letter_of(body):
    """Tell the whole letter that has this body."""
    return f"{len(body)}.{sum_of(body)}.{body}!"


def has_only_signs(body):
    """Tell whether each sign of a body may stand in one."""
    return all(sign in SIGNS for sign in body)


def packed(fields):
    """Tell the letter of one or more fields."""
    if len(fields) == 0:
        raise BadFields("a letter has at least one field")
    for field in fields:
        if BETWEEN in field or not has_only_signs(field):
            raise BadFields(f"no field of a letter: {field!r}")
    return letter_of(BETWEEN.join(fields))


def unpacked(text):
    """Tell the fields of a letter, None of a text that is no whole letter."""
    # No body has a point, so it stands behind the last one, ahead of the end.
    body = text.rpartition(".")[2][:-1]
    # The letter is made anew: numbers, sum and end must all be as packed tells.
    if not has_only_signs(body) or letter_of(body) != text:
        return None
    return body.split(BETWEEN)
