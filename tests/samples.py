"""Tables, texts and strange things for the tests, and the plain doings that they are held against.

Nothing here uses the program but for the making of tables.
"""

import itertools
import random

from joinranks.tables import Table


class EqualToAll:
    """A thing that says it is equal to whatever it is held against."""

    def __eq__(self, other):
        return True

    def __hash__(self):
        return 0


def strange_things():
    """Things of many kinds; of each test's own kind some may be right, which it leaves out."""
    return [None, True, False, 0, 1, -1, 99, 10 ** 59, 0.0, 1.0, 0.5, float("nan"), 1j, "", "a", "aa", "zz",
            "0", b"", b"a", bytearray(b"a"), [], ["a"], [["a"]], [None], (), ("a",), ("a", "b"), ("a", ["b"]),
            {}, {"a": 1}, set(), {"a"}, frozenset("a"), range(2), iter("a"), object(), EqualToAll(), str, len,
            [EqualToAll()], [True], [0.0]]


# Signs and rows by hand: no row, doublings, idle pieces, rows that overlap, blanks, long pieces.
BY_HAND = [
    ("a", []),
    ("ba", []),
    ("a", [("a", "a")]),
    ("a", [("a", "a"), ("aa", "a")]),
    ("a", [("a", "a"), ("aa", "aa"), ("aaaa", "aaaa"), ("a" * 8, "a" * 8)]),
    ("a", [("a", "a"), ("a", "aa"), ("aa", "aa"), ("aaa", "aa")]),
    ("ab", [("a", "b")]),
    ("ab", [("a", "b"), ("ab", "a"), ("ab", "ab"), ("b", "a")]),
    ("abc", [("a", "b"), ("b", "c"), ("a", "bc")]),
    ("abc", [("b", "c"), ("a", "b"), ("ab", "c"), ("a", "a")]),
    ("abc", [("a", "b"), ("ab", "c"), ("c", "c"), ("ab", "ab")]),
    ("ab ", [(" ", "a"), (" a", "b"), ("b", " "), (" ab", " ab"), (" ", " ")]),
    ("ab", [("b", "b"), ("a", "bb"), ("bb", "a"), ("a", "a"), ("bb", "bb"), ("abb", "abb")]),
    ("ab", [("a", "a"), ("b", "b"), ("aa", "b"), ("a", "bb"), ("aab", "b"), ("bb", "aa"), ("b", "aa")]),
    ("ab", [("a", "b"), ("b", "ab"), ("b", "b"), ("bb", "ab"), ("bab", "b"), ("ab", "bab"), ("b", "a")]),
    ("abc", [("a", "b"), ("a", "c")] + [("a", "a" * many + sign) for many in range(1, 12) for sign in "bc"]),
    ("fedcba", [(left, right) for left in "acebdf" for right in "abcd"]),
]


def chance_rows(chance, signs, many):
    """Up to many rows over the signs, drawn by chance, so that they make a table."""
    rows = []
    pieces = list(signs)
    for _ in range(many * 4):
        left, right = chance.choice(pieces), chance.choice(pieces)
        if len(rows) < many and len(left + right) <= 16 and left + right not in pieces:
            rows.append((left, right))
            pieces.append(left + right)
    return rows


def drawn_tables(many):
    """Signs and rows drawn by chance, the same ones each time."""
    chance = random.Random(4711)
    told = []
    for number in range(many):
        signs = "abcd"[:chance.choice([1, 2, 2, 2, 3, 3, 4])]
        told.append((signs, chance_rows(chance, signs, chance.choice([2, 4, 6, 9, 14, 24]))))
    return told


def tables(many_drawn=25):
    """Tables by hand, and so many drawn ones."""
    return [Table(signs, rows) for signs, rows in BY_HAND + drawn_tables(many_drawn)]


def texts(signs, longest):
    """All texts over the signs of at most so many signs."""
    return ["".join(row) for many in range(longest + 1) for row in itertools.product(signs, repeat=many)]


def some_texts(signs, most=60):
    """All short texts over the signs, as far as they are not too many, and some longer ones."""
    chance = random.Random(signs)
    longest = 1
    while longest < 9 and len(signs) ** (longest + 1) <= most:
        longest += 1
    told = texts(signs, longest)
    for many in (7, 11, 16, 17, 25, 33, 64):
        told.append("".join(chance.choice(signs) for _ in range(many)))
    return told


def done_one_by_one(rows, text):
    """The joinings of a text, done one by one as point 10 tells, and the row that is left."""
    row = list(text)
    done = []
    while True:
        found = [(rows.index(pair), at) for at, pair in enumerate(zip(row, row[1:])) if pair in rows]
        if not found:
            return done, row
        rank, at = min(found)
        done.append((rank, sum(len(piece) for piece in row[:at + 1])))
        row[at:at + 2] = [row[at] + row[at + 1]]


def plain_cut(rows, text):
    """The cutting of a text by the passes of all ranks in turn, each piece laid behind the last one."""
    row = list(text)
    for left, right in rows:
        behind = []
        for piece in row:
            if behind and behind[-1] == left and piece == right:
                behind[-1] = left + right
            else:
                behind.append(piece)
        row = behind
    return row


def ends_of(row):
    """For each piece of a row the number of signs to its end."""
    return list(itertools.accumulate(len(piece) for piece in row))


def drawn_text(chance, signs, many):
    """A text of so many signs, drawn by chance."""
    return "".join(chance.choice(signs) for _ in range(many))


def drawn_change(chance, table, text):
    """A change of a text, drawn by chance: place, gone and put."""
    place = chance.choice([0, len(text), chance.randrange(len(text) + 1), chance.randrange(len(text) + 1)])
    gone = min(chance.choice([0, 0, 1, 2, 5, 400]), len(text) - place)
    put = chance.choice(["", chance.choice(table.signs()), chance.choice(table.pieces()),
                         drawn_text(chance, table.signs(), 6), text[place:place + gone]])
    return place, gone, put


def plain_patch(old, new, place, gone):
    """The patch between two cuttings, word for word as the point tells it."""
    first = max(many for many in range(min(len(old), len(new)) + 1)
                if old[:many] == new[:many] and len("".join(old[:many])) <= place)
    old, new, place = old[first:], new[first:], place - len("".join(old[:first]))
    last = max(many for many in range(min(len(old), len(new)) + 1)
               if old[len(old) - many:] == new[len(new) - many:]
               and len("".join(old[:len(old) - many])) >= (place + gone if many else 0))
    return first, old[:len(old) - last], new[:len(new) - last]


def no_texts():
    """What is no text at all."""
    return [thing for thing in strange_things() if thing.__class__ != str]


def no_places(most):
    """What is no number from 0 to most."""
    return [thing for thing in strange_things() if thing.__class__ != int] + [-1, -2, most + 1, most + 2, 10 ** 59]


def no_manys():
    """What is no whole number from 1 on."""
    return [thing for thing in strange_things() if thing.__class__ != int] + [0, -1, -10 ** 59]


# Of the table that abc_table makes: what is no cutting of it, with kind and place of what is wrong.
ABC_WRONG = [
    (("form", None), "ab"), (("form", None), ("a",)), (("form", None), None), (("form", None), {"a": 1}),
    (("piece", 0), [None]), (("piece", 1), ["a", "cc", "a"]), (("piece", 2), ["abc", "abc", True]),
    (("piece", 0), [["a"]]), (("piece", 0), [EqualToAll()]), (("alone", 0), ["abc"]), (("alone", 2), ["a", "b", "abc"]),
    (("border", 0), ["a", "b"]), (("border", 1), ["a", "a", "bc"]), (("border", 2), ["ab", "c", "b", "c", "a", "b"]),
]


def abc_table():
    """A table whose piece abc is idle; b and bc may not follow a, nor c follow b."""
    return Table("abc", [("a", "b"), ("b", "c"), ("a", "bc")])


def refused(case, error, values, call, *told):
    """Let a call be refused with just that class and these values."""
    with case.assertRaises(error) as caught:
        call(*told)
    case.assertIs(caught.exception.__class__, error)
    case.assertEqual({name: getattr(caught.exception, name) for name in values}, values)
    for name, value in values.items():
        case.assertIs(getattr(caught.exception, name).__class__, value.__class__)
