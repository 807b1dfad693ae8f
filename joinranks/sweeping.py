"""The plain sweeping: a row of pieces passed rank by rank."""

from joinranks.checking import check_place, check_row, check_text


def signs_of(table, text):
    """Tell the row in which every sign of a text is a piece."""
    check_text(table, text)
    return list(text)


def pass_along(row, left, right):
    """Join left and right all along a row: tell the new row, and the places of the borders that fell.

    A place is the number of signs ahead of the border.
    """
    behind = []
    places = []
    place = 0
    at = 0
    while at < len(row):
        piece = row[at]
        place += len(piece)
        if piece == left and at + 1 < len(row) and row[at + 1] == right:
            places.append(place)
            place += len(right)
            piece = left + right
            at += 1
        behind.append(piece)
        at += 1
    return behind, places


def pass_all(row, rows):
    """Pass a row by several rows of a table in turn; the row told is a new one."""
    behind = list(row)
    for left, right in rows:
        behind = pass_along(behind, left, right)[0]
    return behind


def passed(table, row, rank):
    """Tell a row of pieces passed by one rank."""
    check_row(table, row)
    rows = table.rows()
    check_place(rank, len(rows) - 1)
    return pass_all(row, [rows[rank]])


def swept_from(table, row, rank):
    """Tell a row of pieces passed by all ranks from a told one on."""
    check_row(table, row)
    rows = table.rows()
    check_place(rank, len(rows))
    return pass_all(row, rows[rank:])


def swept(table, text):
    """Tell the cutting of a text."""
    return pass_all(signs_of(table, text), table.rows())


def rows_on_the_way(table, text):
    """Tell the row of signs, then the row behind each pass."""
    told = [signs_of(table, text)]
    for left, right in table.rows():
        told.append(pass_along(told[-1], left, right)[0])
    return told
