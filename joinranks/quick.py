"""The quick reader: cuttings read by which piece may stand behind which, without any sweeping."""

from joinranks.checking import check_place, check_text


def may_end_there(follows, last, piece):
    """Tell whether a text is a piece that may stand next behind a last piece, None where nothing is ahead."""
    return follows.has_alone(piece) and (last is None or follows.may(last, piece))


def may_begin_there(follows, piece, first):
    """Tell whether a text is a piece that may stand next ahead of a first piece, None where nothing is behind."""
    return follows.has_alone(piece) and (first is None or follows.may(piece, first))


def last_of(follows, text, told):
    """Tell the next one of the lasts of a text, where those ahead of it are told."""
    end = len(told)
    most = min(end, follows.table().longest())
    # Just one of these may end there (point 17), so the order of seeking does not matter.
    fit = [size for size in range(1, most + 1)
           if may_end_there(follows, told[end - size], text[end - size:end])]
    return text[end - fit[0]:end]


def first_of(follows, text, told, begin):
    """Tell the first piece of what is behind a begin, where the firsts farther behind are told."""
    most = min(len(text) - begin, follows.table().longest())
    fit = [size for size in range(1, most + 1)
           if may_begin_there(follows, text[begin:begin + size], told[begin + size])]
    return text[begin:begin + fit[0]]


def add_lasts(follows, text, told):
    """Go on with the lasts of a text from those that are told to its end."""
    while len(told) <= len(text):
        told.append(last_of(follows, text, told))


def lasts(follows, text):
    """Tell for each number of signs the last piece of the cutting of the text's first so many signs."""
    check_text(follows.table(), text)
    told = [None]
    add_lasts(follows, text, told)
    return told


def firsts(follows, text):
    """Tell for each number of signs the first piece of the cutting of what is behind them."""
    check_text(follows.table(), text)
    told = [None] * (len(text) + 1)
    for begin in reversed(range(len(text))):
        told[begin] = first_of(follows, text, told, begin)
    return told


def pieces_back(told_lasts, begin, end):
    """Tell the pieces between two borders of a cutting, read from the end by lasts."""
    row = []
    while end > begin:
        piece = told_lasts[end]
        row.append(piece)
        end -= len(piece)
    return row[::-1]


def read_on(follows, text):
    """Tell the cutting of a text, read from the left by firsts."""
    told = firsts(follows, text)
    row = []
    place = 0
    while place < len(text):
        row.append(told[place])
        place += len(told[place])
    return row


def read_back(follows, text):
    """Tell the cutting of a text, read from the end by lasts."""
    return pieces_back(lasts(follows, text), 0, len(text))


def is_border(follows, text, place):
    """Tell whether a piece of the cutting of a text ends or begins at a place."""
    check_text(follows.table(), text)
    check_place(place, len(text))
    if place == 0 or place == len(text):
        return text != ""
    last = lasts(follows, text[:place])[-1]
    first = firsts(follows, text[place:])[0]
    return follows.may(last, first)
