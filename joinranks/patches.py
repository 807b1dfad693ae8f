"""Changes of a cutting's text, told as patches of the cutting."""

from joinranks.checking import check_place, check_text
from joinranks.judging import check_cutting
from joinranks.quick import read_on


def changed_text(text, place, gone, put):
    """Tell a text with what is put in the stead of so many signs from a place on."""
    return text[:place] + put + text[place + gone:]


def check_change(table, text, place, gone, put):
    """Refuse what is no change of a text of the table."""
    check_place(place, len(text))
    check_place(gone, len(text) - place)
    check_text(table, put)


def same_ahead(old, new, most):
    """Tell how many pieces ahead two rows have alike, within so many signs."""
    many = 0
    for one, other in zip(old, new):
        most -= len(one)
        if one != other or most < 0:
            return many
        many += 1
    return many


def patch_between(old, new, place, behind):
    """Tell the patch between two cuttings whose texts are alike up to a place, and in so many signs behind."""
    first = same_ahead(old, new, place)
    old_left = old[first:]
    new_left = new[first:]
    last = same_ahead(old_left[::-1], new_left[::-1], behind)
    return first, old_left[:len(old_left) - last], new_left[:len(new_left) - last]


def patch_of(follows, row, place, gone, put):
    """Tell the patch of a cutting for a change of its text, where both are known to be right."""
    text = "".join(row)
    new = read_on(follows, changed_text(text, place, gone, put))
    return patch_between(row, new, place, len(text) - place - gone)


def recut(follows, row, place, gone, put):
    """Tell the patch of a cutting for a change of its text."""
    check_cutting(follows, row)
    check_change(follows.table(), "".join(row), place, gone, put)
    return patch_of(follows, row, place, gone, put)


def patched(row, patch):
    """Tell a row with the patch done to it."""
    first, out, into = patch
    return row[:first] + into + row[first + len(out):]
