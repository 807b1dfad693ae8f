"""Splittings of a text into any pieces, and heights below which no splitting comes."""

from joinranks.checking import check_text, first_no_piece
from joinranks.figures import is_whole


def begins_of(table, text, end):
    """Tell where the stretches of a text begin that are pieces and end at a place."""
    least = max(0, end - table.longest())
    return [begin for begin in range(least, end) if table.which(text[begin:end]) is not None]


def is_splitting(table, text, thing):
    """Tell whether anything is a splitting of a text."""
    check_text(table, text)
    if not isinstance(thing, list) or first_no_piece(table, thing) is not None:
        return False
    return "".join(thing) == text


def are_numbers(thing, many):
    """Tell whether anything is a list of so many whole numbers."""
    return isinstance(thing, list) and len(thing) == many and all(is_whole(one) for one in thing)


def lets_heights(table, text, thing):
    """Tell whether anything is heights for a text."""
    check_text(table, text)
    if not are_numbers(thing, len(text) + 1) or thing[0] != 0:
        return False
    for end in range(1, len(text) + 1):
        if any(thing[end] > thing[begin] + 1 for begin in begins_of(table, text, end)):
            return False
    return True
