"""The reach of a table: how far ahead of a text's end its pieces may still become others."""

from joinranks.follows import Follows
from joinranks.meets import left_edge


def reach(table):
    """Tell the greatest sum of the signs of left that a list of rows has, each leading to the next one."""
    follows = Follows(table)
    # By the left of each row: the greatest sum of a list that ends with a row of that left.
    # Ranks rise, so each row needs only what is known of those ahead of it.
    sums = {}
    for left, right in table.rows():
        if follows.has_alone(left + right):
            ahead = max([sums.get(piece, 0) for piece in left_edge(table, right)])
            sums[left] = max(sums.get(left, 0), ahead + len(left))
    return max([0] + [sums[left] for left in sums])
