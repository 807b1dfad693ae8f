"""Rows of pieces judged: whether they are what their own text is cut to."""

from joinranks.checking import first_no_piece
from joinranks.errors import NoCutting


def what_is_wrong(follows, thing):
    """Tell what is wrong with anything as a cutting, None where nothing is."""
    if not isinstance(thing, list):
        return ("form", None)
    strange = first_no_piece(follows.table(), thing)
    if strange is not None:
        return ("piece", strange)
    for number, piece in enumerate(thing):
        if not follows.has_alone(piece):
            return ("alone", number)
    for number, pair in enumerate(zip(thing, thing[1:])):
        if not follows.may(pair[0], pair[1]):
            return ("border", number)
    return None


def check_cutting(follows, thing):
    """Refuse what is the cutting of no text."""
    wrong = what_is_wrong(follows, thing)
    if wrong is not None:
        raise NoCutting(wrong[0], wrong[1])
