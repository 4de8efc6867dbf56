"""Numbers as they stand in texts: figures, and none needless."""


def number_of(text, most):
    """Tell the number of a text of one to so many figures; None of any other."""
    if not text.isascii() or not text.isdigit() or len(text) > most:
        return None
    if text.startswith("0") and text != "0":
        return None
    return int(text)


def numbers_of(texts, most):
    """Tell the numbers of texts; None if one of them is of none."""
    numbers = [number_of(text, most) for text in texts]
    return None if None in numbers else numbers
