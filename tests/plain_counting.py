"""Counting and learning done plainly, word for word as points 25 to 27 tell them, for the tests to hold against.

A text is gone through as often as its many tells, so only for small ones.
"""

from collections import Counter

from joinranks.tables import Table
from tests.samples import drawn_text, plain_cut


def plain_beside(table, counted):
    """How often pieces stand beside one another: tuples (left's number, right's number, how often), sorted."""
    seen = Counter()
    for text, many in counted:
        row = [table.pieces().index(piece) for piece in plain_cut(table.rows(), text)]
        for _ in range(many):
            for at in range(len(row) - 1):
                seen[row[at], row[at + 1]] += 1
    return sorted((left, right, often) for (left, right), often in seen.items())


def plain_pieces(table, counted):
    """The number of all pieces of counted texts."""
    return sum(len(plain_cut(table.rows(), text)) * many for text, many in counted)


def plain_best(table, counted, least):
    """The best pair, None where there is none."""
    pieces = table.pieces()
    fit = [(-often, left, right) for left, right, often in plain_beside(table, counted)
           if often >= least and pieces[left] + pieces[right] not in pieces
           and len(pieces[left] + pieces[right]) <= 16]
    if not fit or len(table.rows()) == 24:
        return None
    often, left, right = min(fit)
    return left, right, -often


def plain_step(table, counted, least):
    """The table with the best pair joined, all counted anew, and the log's tuple; None where there is no pair."""
    best = plain_best(table, counted, least)
    if best is None:
        return None
    pieces = table.pieces()
    new = Table(table.signs(), table.rows() + [(pieces[best[0]], pieces[best[1]])])
    return new, (*best, plain_pieces(table, counted) - plain_pieces(new, counted))


def plain_learnt(table, counted, most, least):
    """The learnt table's rows and the log, all counted anew each time."""
    log = []
    while len(log) < most and plain_step(table, counted, least) is not None:
        table, entry = plain_step(table, counted, least)
        log.append(entry)
    return table.rows(), log


def drawn_counted(chance, table, many):
    """So many counted texts, drawn by chance; some of them may be the same, some without signs."""
    told = [(drawn_text(chance, table.signs(), chance.choice([0, 1, 4, 9, 20, 40])), chance.choice([1, 1, 2, 3, 7]))
            for _ in range(many)]
    return told + told[:1]
