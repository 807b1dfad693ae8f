"""Cuttings gone on with, piece by piece, to the texts that a grammar tells.

A spot is a tuple (state, piece): the state to which a cutting's text leads, None where it leads nowhere, and
the cutting's last piece, None where it has none. All that may come behind a cutting hangs on its spot, and
there are but few spots, however many texts the grammar tells.
"""

from joinranks.judging import check_cutting


def spot_of(grammar, row):
    """Tell the spot of a cutting."""
    return grammar.leads(0, "".join(row)), row[-1] if row else None


def steps_from(follows, grammar, spot):
    """Tell the spots to which one piece more leads from a spot, in the order of the pieces' numbers."""
    state, last = spot
    if state is None:
        return []
    told = []
    for piece in follows.alone() if last is None else follows.after(last):
        ahead = grammar.leads(state, piece)
        if ahead is not None:
            told.append((ahead, piece))
    return told


def all_steps(follows, grammar, start):
    """Tell the steps of each spot to which any number of pieces leads from a start, and of the start."""
    steps = {}
    waiting = [start]
    while waiting:
        spot = waiting.pop()
        if spot not in steps:
            steps[spot] = steps_from(follows, grammar, spot)
            waiting.extend(steps[spot])
    return steps


def turned_about(steps):
    """Tell for each spot those of which it is a step."""
    told = {spot: [] for spot in steps}
    for spot in steps:
        for ahead in steps[spot]:
            told[ahead].append(spot)
    return told


def pieces_to_end(grammar, steps):
    """Tell for each spot from which the grammar tells some text by how few pieces more it does."""
    steps_back = turned_about(steps)
    ends = grammar.ends()
    front = [spot for spot in steps if spot[0] in ends]
    fewest_by_spot = {spot: 0 for spot in front}
    # Front by front from the ends back, so each spot is met first by the fewest pieces.
    while front:
        fresh = []
        for spot in front:
            for back in steps_back[spot]:
                if back not in fewest_by_spot:
                    fewest_by_spot[back] = fewest_by_spot[spot] + 1
                    fresh.append(back)
        front = fresh
    return fewest_by_spot


def next_pieces(follows, grammar, row):
    """Tell the pieces with which a cutting may go on to some text that the grammar tells."""
    check_cutting(follows, row)
    start = spot_of(grammar, row)
    steps = all_steps(follows, grammar, start)
    fewest_by_spot = pieces_to_end(grammar, steps)
    return [spot[1] for spot in steps[start] if spot in fewest_by_spot]


def may_end(follows, grammar, row):
    """Tell whether the grammar tells the text of a cutting."""
    check_cutting(follows, row)
    return grammar.tells("".join(row))


def way_on(follows, grammar, row):
    """Tell as few pieces as can be that lead a cutting on to a text that the grammar tells; or None."""
    check_cutting(follows, row)
    spot = spot_of(grammar, row)
    steps = all_steps(follows, grammar, spot)
    fewest_by_spot = pieces_to_end(grammar, steps)
    if spot not in fewest_by_spot:
        return None
    told = []
    for left in reversed(range(fewest_by_spot[spot])):
        nearer = [ahead for ahead in steps[spot] if fewest_by_spot.get(ahead) == left]
        spot = nearer[0]
        told.append(spot[1])
    return told
