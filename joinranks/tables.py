"""Tables: signs, and a row of joinings that make pieces of pieces."""

from joinranks.errors import NoNumber, NoPiece, NoTable
from joinranks.figures import is_up_to

MOST_SIGNS = 12
MOST_ROWS = 24
MOST_JOINED = 16
BLANK_CODE = 32
PERCENT_CODE = 37
TILDE_CODE = 126


def may_be_sign(sign):
    """Tell whether one sign may be among the signs of a table."""
    code = ord(sign)
    return BLANK_CODE <= code <= TILDE_CODE and code != PERCENT_CODE


def check_signs(signs):
    """Refuse what can't be the signs of a table."""
    if not isinstance(signs, str) or not 1 <= len(signs) <= MOST_SIGNS:
        raise NoTable("signs", None)
    for place, sign in enumerate(signs):
        if not may_be_sign(sign) or sign in signs[:place]:
            raise NoTable("signs", place)


class Table:
    """Signs and rows; it never changes, so it may be shared."""

    def __init__(self, signs, rows):
        check_signs(signs)
        if not isinstance(rows, list) or len(rows) > MOST_ROWS:
            raise NoTable("rows", None)
        self.sign_text = signs
        self.row_list = []
        self.piece_list = []
        self.number_by_piece = {}
        self.rank_by_row = {}
        for sign in signs:
            self.take_piece(sign)
        for number, row in enumerate(rows):
            if not self.may_take_row(row):
                raise NoTable("rows", number)
            self.take_row(row)
        self.most_signs = max([len(piece) for piece in self.piece_list])

    def take_piece(self, piece):
        """Number one more piece, while the table is being made."""
        self.number_by_piece[piece] = len(self.piece_list)
        self.piece_list.append(piece)

    def may_take_row(self, row):
        """Tell whether anything may be the next row."""
        if not isinstance(row, tuple) or len(row) != 2:
            return False
        left, right = row
        if self.which(left) is None or self.which(right) is None:
            return False
        joined = left + right
        return len(joined) <= MOST_JOINED and self.which(joined) is None

    def take_row(self, row):
        """Take one more row, while the table is being made."""
        left, right = row
        self.rank_by_row[(left, right)] = len(self.row_list)
        self.row_list.append((left, right))
        self.take_piece(left + right)

    def signs(self):
        """Tell the signs, as a text."""
        return self.sign_text

    def rows(self):
        """Tell the rows, by their ranks."""
        return list(self.row_list)

    def pieces(self):
        """Tell the pieces, by their numbers."""
        return list(self.piece_list)

    def which(self, thing):
        """Tell the number of a piece, None of anything else."""
        # What is no text may not even be fit for a key.
        if not isinstance(thing, str):
            return None
        return self.number_by_piece.get(thing)

    def piece(self, number):
        """Tell the piece of a number."""
        if not is_up_to(number, len(self.piece_list) - 1):
            raise NoNumber(None)
        return self.piece_list[number]

    def parts(self, piece):
        """Tell left and right of the row that makes a piece, None of a sign."""
        number = self.which(piece)
        if number is None:
            raise NoPiece(None)
        if number < len(self.sign_text):
            return None
        return self.row_list[number - len(self.sign_text)]

    def rank(self, left, right):
        """Tell the rank of the row of any two things, None where there is none."""
        if not isinstance(left, str) or not isinstance(right, str):
            return None
        return self.rank_by_row.get((left, right))

    def longest(self):
        """Tell of how many signs the longest piece is."""
        return self.most_signs
