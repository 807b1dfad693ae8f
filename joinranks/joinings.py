"""The joinings of a text, one by one."""

from joinranks.figures import is_whole
from joinranks.sweeping import pass_along, signs_of


def joinings(table, text):
    """Tell the joinings of a text: tuples (rank, place)."""
    row = signs_of(table, text)
    told = []
    # A joined piece is a part of rows of greater ranks only, so behind the pass of a rank
    # nothing is left to join by it or by a lesser one: the passes go in the order of the joinings.
    for rank, (left, right) in enumerate(table.rows()):
        row, places = pass_along(row, left, right)
        told.extend([(rank, place) for place in places])
    return told


def is_joining(thing):
    """Tell whether anything has the form of a joining: a tuple of two whole numbers."""
    return isinstance(thing, tuple) and len(thing) == 2 and is_whole(thing[0]) and is_whole(thing[1])


def lets_joinings(table, text, thing):
    """Tell whether anything is the list of the joinings of a text."""
    wanted = joinings(table, text)
    if not isinstance(thing, list):
        return False
    # By == alone truths and numbers with a point would be let by.
    return all(is_joining(one) for one in thing) and thing == wanted
