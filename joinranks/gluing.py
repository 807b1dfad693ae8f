"""Cuttings glued to one another, and parted."""

from joinranks.checking import check_place
from joinranks.judging import check_cutting
from joinranks.quick import read_on


def glued(follows, one, other):
    """Tell the cutting of the texts of two cuttings together."""
    check_cutting(follows, one)
    check_cutting(follows, other)
    return read_on(follows, "".join(one + other))


def parted(follows, row, place):
    """Tell the cuttings of what is ahead of a place of a cutting's text, and of what is behind it."""
    check_cutting(follows, row)
    text = "".join(row)
    check_place(place, len(text))
    return read_on(follows, text[:place]), read_on(follows, text[place:])
