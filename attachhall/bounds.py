"""Which numbers are within bounds."""


def is_number(number):
    """Tell whether this is a number: True and False are none."""
    # Python itself takes True for 1 and False for 0.
    return not isinstance(number, bool)


def is_within(number, least, most):
    """Tell whether this is a number from the least to the most one."""
    return is_number(number) and number >= least and number <= most
