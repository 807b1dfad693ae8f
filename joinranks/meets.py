"""Which pieces stand alone, which may follow which, and what is joined over a border."""

from joinranks.checking import check_piece, check_text
from joinranks.joinings import joinings
from joinranks.sweeping import swept


def meets(table, one, other):
    """Tell the rank of the first joining over the border of two texts, None where there is none."""
    check_text(table, one)
    check_text(table, other)
    for rank, place in joinings(table, one + other):
        if place == len(one):
            return rank
    return None


def stands_alone(table, piece):
    """Tell whether the text of a piece is cut to that piece alone."""
    check_piece(table, piece)
    return swept(table, piece) == [piece]


def may_follow(table, left, right):
    """Tell whether the text of two pieces is cut to just these two."""
    check_piece(table, left)
    check_piece(table, right)
    return swept(table, left + right) == [left, right]


def idle_pieces(table):
    """Tell the pieces that do not stand alone, in the order of their numbers."""
    return [piece for piece in table.pieces() if not stands_alone(table, piece)]


def edge(table, piece, side):
    """Tell a piece, its part on a side (0 left, 1 right), that one's part there, and so on to a sign."""
    told = [piece]
    parts = table.parts(piece)
    while parts is not None:
        told.append(parts[side])
        parts = table.parts(parts[side])
    return told


def right_edge(table, piece):
    """Tell the right edge of a piece."""
    return edge(table, piece, 1)


def left_edge(table, piece):
    """Tell the left edge of a piece."""
    return edge(table, piece, 0)


def with_ends(table, pieces):
    """Tell each piece of an edge with the rank by which it becomes part of the piece next ahead of it.

    For the first piece, which stays, that is the number of rows: greater than any rank.
    """
    told = []
    end = len(table.rows())
    for piece in pieces:
        told.append((piece, end))
        parts = table.parts(piece)
        if parts is not None:
            end = table.rank(parts[0], parts[1])
    return told


def edges_meet(table, right_edge_ends, left_edge_ends):
    """Tell what meets does, of two pieces that stand alone, by their edges with their ends alone."""
    least = None
    for left, left_end in right_edge_ends:
        for right, right_end in left_edge_ends:
            rank = table.rank(left, right)
            # A pass goes from the left: by one and the same rank, left is joined to what is ahead of
            # it sooner than over the border, and right sooner over the border than to what is behind.
            if rank is not None and rank < left_end and rank <= right_end and (least is None or rank < least):
                least = rank
    return least
