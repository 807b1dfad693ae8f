"""A desk done plainly, for the tests to hold the program's own against.

It knows only right rows, as tuples of the first word and its values; what it refuses is told, not raised.
Tables and what stands in cuttings are taken from the plain doings of the other helpers, as far as there are any.
"""

from joinranks.alike import unlike_text
from joinranks.errors import NoLead, NoTable
from joinranks.reaches import reach
from joinranks.tables import Table
from joinranks.tableworks import led, trimmed
from tests.plain_counting import plain_step
from tests.plain_splitting import all_splittings
from tests.samples import done_one_by_one, plain_cut, plain_patch


class Refused(Exception):
    """What is refused: the class's name, and its values."""

    def __init__(self, name, **values):
        Exception.__init__(self, name)
        self.told = (name, values)


class PlainDesk:

    def __init__(self):
        self.tables = {}
        self.held = {}
        self.counted = {}

    def answer(self, word, *values):
        """What a desk answers: a text, or a tuple of the refusal's class and its values."""
        named = {"lead": values[1:3], "trim": values[1:2], "alike": values[:2], "table": ()}.get(word, values[:1])
        try:
            if any(name not in self.tables for name in named):
                raise Refused("NoName")
            told = getattr(self, "do_" + word)(*values)
        except Refused as refusal:
            return refusal.told
        if isinstance(told, list):
            return " ".join(str(number) for number in told) or "-"
        return "-" if told is None else str(told)

    # What is held is a list of texts with the change that led to each: the last one is the text now.

    def keep(self, name, table):
        self.tables[name], self.held[name], self.counted[name] = table, [("", None)], []
        return "ok"

    def pieces(self, name, *numbers):
        pieces = self.tables[name].pieces()
        for place, number in enumerate(numbers):
            if number >= len(pieces):
                raise Refused("NoNumber", place=place)
        return [pieces[number] for number in numbers]

    def numbers(self, name, row):
        return [self.tables[name].pieces().index(piece) for piece in row]

    def cut(self, name, text):
        for place, sign in enumerate(text):
            if sign not in self.tables[name].signs():
                raise Refused("NoSign", place=place)
        return plain_cut(self.tables[name].rows(), text)

    def do_table(self, name, signs):
        try:
            return self.keep(name, Table(signs, []))
        except NoTable as refusal:
            raise Refused("NoTable", part="signs", number=refusal.number) from None

    def do_lead(self, name, one, other):
        try:
            return self.keep(name, led(self.tables[one], self.tables[other]))
        except NoLead:
            raise Refused("NoLead") from None

    def do_trim(self, name, one):
        return self.keep(name, trimmed(self.tables[one]))

    def do_join(self, name, left, right):
        row = tuple(self.pieces(name, left, right))
        table = self.tables[name]
        try:
            self.tables[name] = Table(table.signs(), table.rows() + [row])
        except NoTable as refusal:
            raise Refused("NoTable", part="rows", number=refusal.number) from None
        return len(table.pieces())

    def do_drop(self, name):
        table = self.tables[name]
        if not table.rows():
            raise Refused("NoDeed")
        self.tables[name] = Table(table.signs(), table.rows()[:-1])
        return "ok"

    def do_signs(self, name):
        return self.tables[name].signs()

    def do_rows(self, name):
        return [number for row in self.tables[name].rows() for number in self.numbers(name, row)]

    def do_cut(self, name, text):
        return self.numbers(name, self.cut(name, text))

    def do_judge(self, name, *numbers):
        row = self.pieces(name, *numbers)
        for place, piece in enumerate(row):
            if self.cut(name, piece) != [piece]:
                return f"alone {place}"
        for place, pair in enumerate(zip(row, row[1:])):
            if self.cut(name, "".join(pair)) != list(pair):
                return f"border {place}"
        return "yes"

    def do_follow(self, name, left, right):
        row = self.pieces(name, left, right)
        return "yes" if self.cut(name, "".join(row)) == row else "no"

    def do_meets(self, name, left, right):
        one, other = self.pieces(name, left, right)
        done = done_one_by_one(self.tables[name].rows(), one + other)[0]
        return next((rank for rank, place in done if place == len(one)), None)

    def do_reach(self, name):
        return reach(self.tables[name])

    def do_alike(self, one, other):
        try:
            return "yes" if unlike_text(self.tables[one], self.tables[other]) is None else "no"
        except NoLead:
            raise Refused("NoLead") from None

    def do_fewest(self, name, text):
        self.cut(name, text)
        return min(len(row) for row in all_splittings(self.tables[name].pieces(), text))

    def do_hold(self, name, text):
        self.cut(name, text)
        self.held[name] = [(text, None)]
        return "ok"

    def patch(self, name, new, place, gone):
        old = self.held[name][-1][0]
        first, out, into = plain_patch(self.cut(name, old), self.cut(name, new), place, gone)
        return [first, len(out), len(into)]

    def do_change(self, name, place, gone, put):
        text = self.held[name][-1][0]
        if place > len(text) or gone > len(text) - place:
            raise Refused("NoPlace")
        self.cut(name, put)
        new = text[:place] + put + text[place + gone:]
        told = self.patch(name, new, place, gone)
        self.held[name].append((new, (place, len(put))))
        return told

    def do_undo(self, name):
        if len(self.held[name]) == 1:
            raise Refused("NoDeed")
        told = self.patch(name, self.held[name][-2][0], *self.held[name][-1][1])
        self.held[name].pop()
        return told

    def do_text(self, name):
        return self.held[name][-1][0]

    def do_held(self, name):
        return self.numbers(name, self.cut(name, self.held[name][-1][0]))

    def do_count(self, name, many, text):
        self.cut(name, text)
        self.counted[name].append((text, many))
        return "ok"

    def do_step(self, name, least):
        done = plain_step(self.tables[name], self.counted[name], least)
        if done is None:
            return None
        self.tables[name] = done[0]
        return list(done[1])
