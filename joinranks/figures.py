"""Whole numbers, and how they are written by figures."""

from joinranks.errors import NoText

FIGURES = "0123456789"
MOST_FIGURES = 60


def is_whole(thing):
    """Tell whether anything is a whole number."""
    # Python counts truths as integers; here they are none.
    return isinstance(thing, int) and not isinstance(thing, bool)


def is_up_to(thing, most):
    """Tell whether anything is a whole number from 0 to most."""
    return is_whole(thing) and 0 <= thing <= most


def show_number(number):
    """Write a whole number from 0 on by figures."""
    return str(number)


def is_written_number(thing):
    """Tell whether anything is a text that writes a whole number by at most sixty figures."""
    if not isinstance(thing, str) or not 1 <= len(thing) <= MOST_FIGURES:
        return False
    if thing[0] == "0" and len(thing) > 1:
        return False
    # int() alone would let by blanks, a sign ahead and figures of other scripts.
    return all(sign in FIGURES for sign in thing)


def read_number(text):
    """Read a number that is written by figures; all else is refused."""
    if not is_written_number(text):
        raise NoText(0)
    return int(text)
