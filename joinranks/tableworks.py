"""Tables made of tables: a beginning, other signs, one led by another, one without its idle rows."""

from joinranks.checking import check_place
from joinranks.errors import NoLead, NoTable
from joinranks.meets import stands_alone
from joinranks.tables import MOST_ROWS, MOST_SIGNS, Table, check_signs


def with_row(table, row):
    """Tell the table with one row more, behind the others."""
    return Table(table.signs(), table.rows() + [row])


def beginning(table, many):
    """Tell the table of the first so many rows."""
    rows = table.rows()
    check_place(many, len(rows))
    return Table(table.signs(), rows[:many])


def renamed(table, signs):
    """Tell the table in which each sign is that of a text at the same place."""
    check_signs(signs)
    if len(signs) != len(table.signs()):
        raise NoTable("signs", None)
    # Sign by sign and not one behind the other: signs may only be turned about.
    new_by_old = dict(zip(table.signs(), signs))
    rows = []
    for left, right in table.rows():
        rows.append(("".join([new_by_old[sign] for sign in left]), "".join([new_by_old[sign] for sign in right])))
    return Table(signs, rows)


def led(one, other):
    """Tell the table of one's signs and rows, then those of the other that the one lacks."""
    signs = one.signs() + "".join([sign for sign in other.signs() if sign not in one.signs()])
    # The one may have the same piece by another row: then its own row makes it.
    rows = one.rows() + [(left, right) for left, right in other.rows() if one.which(left + right) is None]
    if len(signs) > MOST_SIGNS or len(rows) > MOST_ROWS:
        raise NoLead("both together have too many signs or rows")
    return Table(signs, rows)


def trimmed(table):
    """Tell the table without the rows that make idle pieces."""
    # The parts of a piece that stands alone do so, too, so no row that stays lacks one.
    rows = [(left, right) for left, right in table.rows() if stands_alone(table, left + right)]
    return Table(table.signs(), rows)
