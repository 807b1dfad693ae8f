"""Grammars for the tests, and what they tell, gone through sign by sign and text by text.

A grammar here is a tuple (many, ways, ends), as it is handed in.
"""

import itertools
import random


def plain_leads(told, state, text):
    """The state to which a text leads, None where a way lacks."""
    for sign in text:
        found = [way[2] for way in told[1] if way[0] == state and way[1] == sign]
        if not found:
            return None
        state = found[0]
    return state


def plain_tells(told, text):
    """Whether a text leads from state 0 to an end."""
    state = plain_leads(told, 0, text)
    return state is not None and state in told[2]


def told_texts(told, signs, many):
    """All texts of just so many of the signs that a grammar tells."""
    return ["".join(row) for row in itertools.product(sorted(signs), repeat=many) if plain_tells(told, row)]


def loops(signs, many=1):
    """For each of so many states and each sign a way to the next state, from the last one to the first."""
    return [(state, sign, (state + 1) % many) for state in range(many) for sign in signs]


def drawn_grammar(chance, signs, many):
    """A grammar of so many states, some of its ways lacking, some by a sign that may be none of the signs."""
    ways = [(state, sign, chance.randrange(many)) for state in range(many) for sign in signs + "Z~"
            if chance.random() < 0.8]
    chance.shuffle(ways)
    return many, ways[:48], chance.sample(range(many), chance.randrange(1, many + 1))


def some_grammars(signs, drawn=3):
    """Grammars for tables with these signs: the edges by hand, and some drawn ones."""
    chance = random.Random(signs)
    first, last = signs[0], signs[-1]
    by_hand = [
        (1, loops(signs), [0]),
        (1, loops(signs), []),
        (1, [], [0]),
        (1, [], []),
        (1, [(0, "Z", 0)], [0]),
        (2, loops(signs, 2), [0]),
        (3, loops(signs, 3), [2, 0]),
        (4, [(0, first, 1), (1, last, 2), (2, first, 3)], [3, 1]),
        (4, [(0, first, 0), (0, last, 3), (3, first, 3), (1, first, 2)] if first != last else [(0, first, 2)], [3]),
        (2, [(0, last, 1), (1, "~", 0)], [0]),
    ]
    return by_hand + [drawn_grammar(chance, signs, chance.choice([1, 2, 3, 4, 4])) for _ in range(drawn)]
