"""Text, numbers and borders of a row of pieces, and the row of a list of numbers."""

from joinranks.checking import check_row
from joinranks.errors import NoNumber
from joinranks.figures import is_up_to


def text_of(table, row):
    """Tell the text of a row of pieces."""
    check_row(table, row)
    return "".join(row)


def numbers_of(table, row):
    """Tell the numbers of the pieces of a row."""
    check_row(table, row)
    return [table.which(piece) for piece in row]


def borders_of(table, row):
    """Tell for each piece of a row but the last one the number of signs to its end."""
    check_row(table, row)
    told = []
    place = 0
    for piece in row[:-1]:
        place += len(piece)
        told.append(place)
    return told


def pieces_of(table, numbers):
    """Tell the row of a list of numbers of pieces."""
    if not isinstance(numbers, list):
        raise NoNumber(None)
    pieces = table.pieces()
    for place, number in enumerate(numbers):
        if not is_up_to(number, len(pieces) - 1):
            raise NoNumber(place)
    return [pieces[number] for number in numbers]
