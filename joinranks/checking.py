"""What is handed in beside a table, looked at ahead of its use."""

from joinranks.errors import NoLead, NoPiece, NoPlace, NoSign
from joinranks.figures import is_up_to


def check_text(table, text):
    """Refuse what is no text of the table."""
    if not isinstance(text, str):
        raise NoSign(None)
    signs = table.signs()
    for place, sign in enumerate(text):
        if sign not in signs:
            raise NoSign(place)


def first_no_piece(table, things):
    """Tell the number of the first thing of a list that is no piece, None where all are."""
    for number, thing in enumerate(things):
        if table.which(thing) is None:
            return number
    return None


def check_row(table, row):
    """Refuse what is no row of pieces of the table."""
    if not isinstance(row, list):
        raise NoPiece(None)
    wrong = first_no_piece(table, row)
    if wrong is not None:
        raise NoPiece(wrong)


def check_piece(table, piece):
    """Refuse what is no piece of the table."""
    if table.which(piece) is None:
        raise NoPiece(None)


def check_place(place, most):
    """Refuse what is no whole number from 0 to most."""
    if not is_up_to(place, most):
        raise NoPlace("no such place")


def check_same_signs(one, other):
    """Refuse two tables that do not have the same signs, in whatever order."""
    if sorted(one.signs()) != sorted(other.signs()):
        raise NoLead("the tables have other signs")
