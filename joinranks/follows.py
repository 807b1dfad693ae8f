"""Follows: of a table, once and for all, which piece may stand behind which."""

from joinranks.checking import check_piece
from joinranks.meets import edges_meet, left_edge, right_edge, with_ends


class Follows:
    """Which pieces of a table stand alone, and which may follow which; it never changes, so it may be shared.

    All is sought by the edges of the pieces (point 13): sweeping the text of each two pieces takes far longer.
    """

    def __init__(self, table):
        self.held_table = table
        self.right_edges = {}
        self.left_edges = {}
        self.alone_pieces = {}
        self.pieces_after = {}
        self.pieces_ahead = {}
        self.pairs = {}
        for piece in table.pieces():
            self.right_edges[piece] = with_ends(table, right_edge(table, piece))
            self.left_edges[piece] = with_ends(table, left_edge(table, piece))
            self.pieces_after[piece] = []
            self.pieces_ahead[piece] = []
        for piece in table.pieces():
            if self.is_alone(piece):
                self.alone_pieces[piece] = True
        self.pair_all()

    def is_alone(self, piece):
        """Tell whether a piece stands alone, where that is known of its parts already."""
        parts = self.held_table.parts(piece)
        if parts is None:
            return True
        left, right = parts
        if left not in self.alone_pieces or right not in self.alone_pieces:
            return False
        return self.first_rank(left, right) == self.held_table.rank(left, right)

    def first_rank(self, left, right):
        """Tell the rank of the first joining over the border of two pieces that stand alone, or None."""
        return edges_meet(self.held_table, self.right_edges[left], self.left_edges[right])

    def pair_all(self):
        """Note of each two pieces that stand alone whether one may follow the other."""
        alone = list(self.alone_pieces)
        for left in alone:
            for right in alone:
                if self.first_rank(left, right) is None:
                    self.pairs[(left, right)] = True
                    self.pieces_after[left].append(right)
                    self.pieces_ahead[right].append(left)

    def table(self):
        """Tell the table."""
        return self.held_table

    def alone(self):
        """Tell the pieces that stand alone, in the order of their numbers."""
        return list(self.alone_pieces)

    def has_alone(self, thing):
        """Tell whether anything is a piece that stands alone."""
        return isinstance(thing, str) and thing in self.alone_pieces

    def after(self, piece):
        """Tell the pieces that may follow a piece, in the order of their numbers."""
        check_piece(self.held_table, piece)
        return list(self.pieces_after[piece])

    def ahead(self, piece):
        """Tell the pieces that a piece may follow, in the order of their numbers."""
        check_piece(self.held_table, piece)
        return list(self.pieces_ahead[piece])

    def may(self, left, right):
        """Tell whether right may follow left."""
        check_piece(self.held_table, left)
        check_piece(self.held_table, right)
        return (left, right) in self.pairs
