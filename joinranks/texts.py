"""Tables and lists of numbers, written as texts and read back."""

from joinranks.errors import NoNumber, NoTable, NoText
from joinranks.figures import read_number, show_number
from joinranks.numbering import pieces_of
from joinranks.tables import Table
from joinranks.tableworks import with_row

HEAD = "signs "


def show_numbers(numbers):
    """Write a list of whole numbers from 0 on."""
    return " ".join([show_number(number) for number in numbers])


def read_numbers(text):
    """Read a list of numbers."""
    if not isinstance(text, str):
        raise NoText(0)
    # Split, the text without signs would be one word without signs.
    return [read_number(word) for word in text.split(" ")] if text else []


def row_numbers(table):
    """Tell for each row of a table the list of the numbers of left and right."""
    return [[table.which(left), table.which(right)] for left, right in table.rows()]


def show_table(table):
    """Write a table."""
    return "\n".join([HEAD + table.signs()] + [show_numbers(pair) for pair in row_numbers(table)])


def read_signs(line):
    """Read the table without rows from the first row of a text."""
    if not line.startswith(HEAD):
        raise NoText(0)
    try:
        return Table(line.removeprefix(HEAD), [])
    except NoTable:
        raise NoText(0) from None


def read_row(table, line, number):
    """Read one row of a text: tell the table with that row more."""
    try:
        return with_row(table, tuple(pieces_of(table, read_numbers(line))))
    except (NoText, NoNumber, NoTable):
        raise NoText(number) from None


def read_table(text):
    """Read a table."""
    if not isinstance(text, str):
        raise NoText(0)
    lines = text.split("\n")
    table = read_signs(lines[0])
    for number, line in enumerate(lines[1:], start=1):
        table = read_row(table, line, number)
    return table
