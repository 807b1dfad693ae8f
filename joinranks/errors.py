"""The refusals: one class for each kind, all of them under JoinError."""


class JoinError(ValueError):
    """Any refusal, made of a text."""

    def __init__(self, words):
        ValueError.__init__(self, words)


class NoTable(JoinError):
    """Signs and rows that make no table: the part, and the number within it or None."""

    def __init__(self, part, number):
        JoinError.__init__(self, f"no table: {part}, {number}")
        self.part = part
        self.number = number


class NoGrammar(JoinError):
    """States, ways and ends that make no grammar: the part, and the number within it or None."""

    def __init__(self, part, number):
        JoinError.__init__(self, f"no grammar: {part}, {number}")
        self.part = part
        self.number = number


class NoCutting(JoinError):
    """What is the cutting of no text: the kind of what is wrong, and its place or None."""

    def __init__(self, kind, place):
        JoinError.__init__(self, f"no cutting: {kind}, {place}")
        self.kind = kind
        self.place = place


class NoSign(JoinError):
    """What is no text of a table: the place of the first strange sign, None where it is no text."""

    def __init__(self, place):
        JoinError.__init__(self, f"no sign of the table: {place}")
        self.place = place


class NoPiece(JoinError):
    """What is no piece, or no row of pieces: the number of the first wrong thing, or None."""

    def __init__(self, place):
        JoinError.__init__(self, f"no piece of the table: {place}")
        self.place = place


class NoNumber(JoinError):
    """What is no number of a piece, or no list of such: the number of the first wrong thing, or None."""

    def __init__(self, place):
        JoinError.__init__(self, f"no number of a piece: {place}")
        self.place = place


class NoCount(JoinError):
    """What is no counted text, or no list of such: the number of the first wrong thing, or None."""

    def __init__(self, number):
        JoinError.__init__(self, f"no counted text: {number}")
        self.number = number


class NoText(JoinError):
    """What writes nothing that could be read: the number of the first wrong row."""

    def __init__(self, row):
        JoinError.__init__(self, f"not written so: row {row}")
        self.row = row


class NoPlace(JoinError):
    """What is no place, rank, state or number within what is told."""


class NoLead(JoinError):
    """Tables that do not go together."""


class NoDeed(JoinError):
    """Nothing is there to be undone."""


class NoRow(JoinError):
    """A row of words that a desk does not know."""


class NoName(JoinError):
    """A name by which a desk keeps no table."""
