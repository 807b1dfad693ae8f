"""Counted texts: how often pieces stand beside one another in them."""

from joinranks.checking import check_text
from joinranks.errors import NoCount
from joinranks.figures import is_whole
from joinranks.sweeping import swept
from joinranks.tables import MOST_JOINED, MOST_ROWS


def is_many(thing):
    """Tell whether anything is a whole number from 1 on."""
    return is_whole(thing) and thing >= 1


def check_counted(table, counted):
    """Refuse what are no counted texts of the table."""
    if not isinstance(counted, list):
        raise NoCount(None)
    for number, one in enumerate(counted):
        if not isinstance(one, tuple) or len(one) != 2:
            raise NoCount(number)
        check_text(table, one[0])
        if not is_many(one[1]):
            raise NoCount(number)


def cut_counted(table, counted):
    """Tell the cuttings of counted texts, as tuples (cutting, many)."""
    check_counted(table, counted)
    return [(swept(table, text), many) for text, many in counted]


def count_pieces(cuts):
    """Tell the number of all pieces of counted cuttings."""
    return sum([len(row) * many for row, many in cuts])


def count_pairs(table, cuts):
    """Tell the tuples (left's number, right's number, how often) of counted cuttings, sorted."""
    often = {}
    for row, many in cuts:
        for pair in zip(row, row[1:]):
            often[pair] = often.get(pair, 0) + many
    return sorted([(table.which(left), table.which(right), often[(left, right)]) for left, right in often])


def may_be_joined(table, left, right):
    """Tell whether the pieces of two numbers may be left and right of one more row."""
    joined = table.piece(left) + table.piece(right)
    return len(joined) <= MOST_JOINED and table.which(joined) is None


def best_of(table, cuts, least):
    """Tell the best pair of counted cuttings, None where there is none."""
    if len(table.rows()) >= MOST_ROWS:
        return None
    best = None
    # They are sorted, so of several that stand so often the first one is kept.
    for left, right, often in count_pairs(table, cuts):
        if often >= least and (best is None or often > best[2]) and may_be_joined(table, left, right):
            best = (left, right, often)
    return best


def beside(table, counted):
    """Tell how often pieces stand beside one another in counted texts."""
    return count_pairs(table, cut_counted(table, counted))


def best_pair(table, counted, least):
    """Tell the pair that stands beside one another most often, of those that may be joined; or None."""
    return best_of(table, cut_counted(table, counted), least)
