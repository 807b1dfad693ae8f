"""Tables learnt from counted texts, one joining at a time."""

from joinranks.counting import best_of, count_pieces, cut_counted
from joinranks.sweeping import pass_along
from joinranks.tableworks import with_row


def joined_once(table, cuts, least):
    """Join the best pair of counted cuttings: tell the new table, the new cuttings and the log's tuple; or None."""
    best = best_of(table, cuts, least)
    if best is None:
        return None
    left = table.piece(best[0])
    right = table.piece(best[1])
    # The new row is the last one, so the new cuttings are the old ones, passed by it alone.
    new_cuts = [(pass_along(row, left, right)[0], many) for row, many in cuts]
    return with_row(table, (left, right)), new_cuts, (*best, count_pieces(cuts) - count_pieces(new_cuts))


def learnt(table, counted, most, least):
    """Tell the table with up to most rows more, learnt from counted texts, and the log of these rows."""
    cuts = cut_counted(table, counted)
    log = []
    while len(log) < most:
        done = joined_once(table, cuts, least)
        if done is None:
            break
        table, cuts, entry = done
        log.append(entry)
    return table, log
