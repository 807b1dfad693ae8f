"""The cuttings of a grammar's texts, counted and numbered without being gone through."""

from joinranks.checking import check_place
from joinranks.judging import check_cutting
from joinranks.walking import all_steps

# The spot of the cutting without pieces.
START = (0, None)


def ways_by(counts, step, signs):
    """Tell how many ways lead to an end by a step and, with its piece, just so many signs."""
    left = signs - len(step[1])
    return counts[left][step] if left >= 0 else 0


def count_all(grammar, steps, most):
    """Tell, by the number of signs up to the most, and then by spot, how many ways lead to an end."""
    ends = grammar.ends()
    counts = [{spot: 1 if spot[0] in ends else 0 for spot in steps}]
    for signs in range(1, most + 1):
        counts.append({spot: sum([ways_by(counts, step, signs) for step in steps[spot]]) for spot in steps})
    return counts


def how_many(follows, grammar, signs):
    """Tell how many cuttings of texts that the grammar tells have so many signs."""
    steps = all_steps(follows, grammar, START)
    return count_all(grammar, steps, signs)[signs][START]


def cutting_of(follows, grammar, signs, number):
    """Tell the cutting of a number among those of so many signs."""
    steps = all_steps(follows, grammar, START)
    counts = count_all(grammar, steps, signs)
    check_place(number, counts[signs][START] - 1)
    row = []
    spot = START
    while signs > 0:
        # The steps are in the order of the pieces' numbers, so what is passed by is numbered ahead.
        for step in steps[spot]:
            many = ways_by(counts, step, signs)
            if number < many:
                break
            number -= many
        spot = step
        row.append(step[1])
        signs -= len(step[1])
    return row


def number_of(follows, grammar, row):
    """Tell the number of a cutting among those of as many signs, None where the grammar does not tell its text."""
    check_cutting(follows, row)
    text = "".join(row)
    if not grammar.tells(text):
        return None
    table = follows.table()
    steps = all_steps(follows, grammar, START)
    signs = len(text)
    counts = count_all(grammar, steps, signs)
    number = 0
    spot = START
    for piece in row:
        lesser = [step for step in steps[spot] if table.which(step[1]) < table.which(piece)]
        number += sum([ways_by(counts, step, signs) for step in lesser])
        spot = (grammar.leads(spot[0], piece), piece)
        signs -= len(piece)
    return number
