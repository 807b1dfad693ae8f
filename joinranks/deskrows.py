"""The rows that a desk answers: which words each of them has."""

from joinranks.errors import NoRow
from joinranks.figures import is_written_number, read_number

LETTERS = "abcdefghijklmnopqrstuvwxyz"
MOST_LETTERS = 8
MOST_NUMBER_FIGURES = 4

# By the first word the kinds of the others. A new name needs no table that is kept by it; numbers are any
# number of them, perhaps none; a text is all that follows.
FORMS = {
    "table": ("new", "text"),
    "lead": ("new", "name", "name"),
    "trim": ("new", "name"),
    "join": ("name", "number", "number"),
    "drop": ("name",),
    "signs": ("name",),
    "rows": ("name",),
    "cut": ("name", "text"),
    "judge": ("name", "numbers"),
    "follow": ("name", "number", "number"),
    "meets": ("name", "number", "number"),
    "reach": ("name",),
    "alike": ("name", "name"),
    "fewest": ("name", "text"),
    "hold": ("name", "text"),
    "change": ("name", "number", "number", "text"),
    "undo": ("name",),
    "text": ("name",),
    "held": ("name",),
    "count": ("name", "count", "text"),
    "step": ("name", "count"),
}


def is_name(word):
    """Tell whether a word may be a name."""
    return 1 <= len(word) <= MOST_LETTERS and all(sign in LETTERS for sign in word)


def fits(kind, word):
    """Tell whether a word is of a kind."""
    if kind == "text":
        return True
    if kind == "number":
        return is_written_number(word) and len(word) <= MOST_NUMBER_FIGURES
    if kind == "count":
        return is_written_number(word) and word != "0"
    return is_name(word)


def words_behind(row, form):
    """Tell the words of a row behind the first one."""
    if form[-1] == "text":
        return row.split(" ", len(form))[1:]
    return row.split(" ")[1:]


def kinds_of(form, many):
    """Tell the kinds that so many words must have."""
    if form[-1] == "numbers":
        return form[:-1] + ("number",) * (many - len(form) + 1)
    return form


def read_desk_row(row):
    """Tell the first word of a row and, as tuples (kind, value), what stands behind it; or refuse the row."""
    if not isinstance(row, str):
        raise NoRow("no text")
    first = row.split(" ")[0]
    if first not in FORMS:
        raise NoRow("no such first word")
    form = FORMS[first]
    words = words_behind(row, form)
    kinds = kinds_of(form, len(words))
    if len(words) != len(kinds):
        raise NoRow("too few or too many words")
    told = []
    for kind, word in zip(kinds, words):
        if not fits(kind, word):
            raise NoRow(f"no {kind}")
        told.append((kind, read_number(word) if kind in ("number", "count") else word))
    return first, told
