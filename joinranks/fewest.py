"""The fewest pieces of any splitting of a text."""

from joinranks.checking import check_text
from joinranks.splitting import begins_of


def heights(table, text):
    """Tell for each number of signs the fewest pieces of a splitting of the text's first so many signs."""
    check_text(table, text)
    told = [0]
    for end in range(1, len(text) + 1):
        # Each sign is a piece, so there is at least one begin.
        told.append(1 + min([told[begin] for begin in begins_of(table, text, end)]))
    return told


def best_begins(table, text, told, end):
    """Tell where the last piece of a splitting with the fewest pieces may begin, up to an end."""
    return [begin for begin in begins_of(table, text, end) if told[begin] + 1 == told[end]]


def fewest(table, text):
    """Tell a splitting of a text with the fewest pieces."""
    told = heights(table, text)
    row = []
    end = len(text)
    while end > 0:
        begin = best_begins(table, text, told, end)[0]
        row.append(text[begin:end])
        end = begin
    return row[::-1]


def how_many_fewest(table, text):
    """Tell how many splittings of a text have the fewest pieces."""
    told = heights(table, text)
    counts = [1]
    for end in range(1, len(text) + 1):
        counts.append(sum([counts[begin] for begin in best_begins(table, text, told, end)]))
    return counts[-1]
