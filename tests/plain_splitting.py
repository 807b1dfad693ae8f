"""Splittings and heights gone through one by one, for the tests to hold against."""


def all_splittings(pieces, text):
    """All splittings of a text into pieces, each once."""
    if text == "":
        return [[]]
    return [[piece] + behind for piece in pieces if text.startswith(piece)
            for behind in all_splittings(pieces, text[len(piece):])]


def plain_lets(pieces, text, told):
    """Whether a list of whole numbers is heights, stretch by stretch."""
    if len(told) != len(text) + 1 or told[0] != 0:
        return False
    return all(told[end] <= told[begin] + 1 for begin in range(len(text)) for end in range(begin + 1, len(text) + 1)
               if text[begin:end] in pieces)
