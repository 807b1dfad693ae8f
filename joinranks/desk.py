"""The desk: tables kept by names, each with its texts, asked by rows of words."""

from joinranks.alike import unlike_text
from joinranks.checking import check_text
from joinranks.deskrows import read_desk_row
from joinranks.errors import NoDeed, NoName
from joinranks.fewest import heights
from joinranks.figures import show_number
from joinranks.judging import what_is_wrong
from joinranks.kept import Kept
from joinranks.learning import learnt
from joinranks.meets import may_follow, meets
from joinranks.numbering import numbers_of, pieces_of
from joinranks.reaches import reach
from joinranks.sweeping import swept
from joinranks.tables import Table
from joinranks.tableworks import beginning, led, trimmed, with_row
from joinranks.texts import row_numbers, show_numbers

DONE = "ok"
NOTHING = "-"


class Shelf:
    """A table that a desk keeps, with its held text and its counted texts."""

    def __init__(self, table):
        self.kept_text = Kept(table, "")
        self.many_by_text = {}

    def table(self):
        """Tell the table as it is now."""
        return self.kept_text.table()

    def turn_to(self, table):
        """Go on with another table of the same signs; the texts stay, with as much to undo."""
        self.kept_text = self.kept_text.under(table)

    def counted(self):
        """Tell the counted texts."""
        return [(text, self.many_by_text[text]) for text in self.many_by_text]


def show_all(numbers):
    """Answer a list of numbers."""
    return show_numbers(numbers) if numbers else NOTHING


def show_truth(truth):
    """Answer whether something is so."""
    return "yes" if truth else "no"


def show_patch(patch):
    """Answer a patch: first, and how many pieces out and into have."""
    first, out, into = patch
    return show_all([first, len(out), len(into)])


def make_table(signs):
    """Tell a table of these signs, without rows."""
    return Table(signs, [])


def make_led(one, other):
    """Tell the table of one shelf led by that of another."""
    return led(one.table(), other.table())


def make_trimmed(one):
    """Tell the table of a shelf trimmed."""
    return trimmed(one.table())


def answer_join(shelf, left, right):
    """Join one row more; answer the new piece's number."""
    table = shelf.table()
    shelf.turn_to(with_row(table, tuple(pieces_of(table, [left, right]))))
    return show_number(len(table.pieces()))


def answer_drop(shelf):
    """Let the last row go."""
    many = len(shelf.table().rows())
    if many == 0:
        raise NoDeed("the table has no row")
    shelf.turn_to(beginning(shelf.table(), many - 1))
    return DONE


def answer_signs(shelf):
    """Answer the signs."""
    return shelf.table().signs()


def answer_rows(shelf):
    """Answer the numbers of left and right of all rows."""
    return show_all([number for pair in row_numbers(shelf.table()) for number in pair])


def answer_cut(shelf, text):
    """Answer the numbers of a text's cutting."""
    return show_all(numbers_of(shelf.table(), swept(shelf.table(), text)))


def answer_judge(shelf, *numbers):
    """Answer what is wrong with a row of pieces as a cutting."""
    wrong = what_is_wrong(shelf.kept_text.follows(), pieces_of(shelf.table(), list(numbers)))
    return show_truth(True) if wrong is None else f"{wrong[0]} {wrong[1]}"


def answer_follow(shelf, left, right):
    """Answer whether the second piece may follow the first."""
    pieces = pieces_of(shelf.table(), [left, right])
    return show_truth(may_follow(shelf.table(), pieces[0], pieces[1]))


def answer_meets(shelf, left, right):
    """Answer the rank of the first joining over the border of two pieces."""
    pieces = pieces_of(shelf.table(), [left, right])
    rank = meets(shelf.table(), pieces[0], pieces[1])
    return NOTHING if rank is None else show_number(rank)


def answer_reach(shelf):
    """Answer the reach."""
    return show_number(reach(shelf.table()))


def answer_alike(one, other):
    """Answer whether two tables cut every text alike."""
    return show_truth(unlike_text(one.table(), other.table()) is None)


def answer_fewest(shelf, text):
    """Answer how many pieces a splitting of a text has at the fewest."""
    return show_number(heights(shelf.table(), text)[-1])


def answer_hold(shelf, text):
    """Hold a text, with nothing to undo."""
    shelf.kept_text = Kept(shelf.table(), text)
    return DONE


def answer_change(shelf, place, gone, put):
    """Change the held text; answer the patch."""
    return show_patch(shelf.kept_text.change(place, gone, put))


def answer_undo(shelf):
    """Undo the last change of the held text; answer the patch."""
    return show_patch(shelf.kept_text.undo())


def answer_text(shelf):
    """Answer the held text."""
    return shelf.kept_text.text()


def answer_held(shelf):
    """Answer the numbers of the held text's cutting."""
    return show_all(numbers_of(shelf.table(), shelf.kept_text.cutting()))


def answer_count(shelf, many, text):
    """Count a text so many times more."""
    check_text(shelf.table(), text)
    shelf.many_by_text[text] = shelf.many_by_text.get(text, 0) + many
    return DONE


def answer_step(shelf, least):
    """Join the best pair of the counted texts; answer the log's tuple."""
    table, log = learnt(shelf.table(), shelf.counted(), 1, least)
    if not log:
        return NOTHING
    shelf.turn_to(table)
    return show_all(list(log[0]))


MAKERS = {"table": make_table, "lead": make_led, "trim": make_trimmed}
ANSWERS = {
    "join": answer_join,
    "drop": answer_drop,
    "signs": answer_signs,
    "rows": answer_rows,
    "cut": answer_cut,
    "judge": answer_judge,
    "follow": answer_follow,
    "meets": answer_meets,
    "reach": answer_reach,
    "alike": answer_alike,
    "fewest": answer_fewest,
    "hold": answer_hold,
    "change": answer_change,
    "undo": answer_undo,
    "text": answer_text,
    "held": answer_held,
    "count": answer_count,
    "step": answer_step,
}


class Desk:
    """Tables kept by names; it answers rows of words."""

    def __init__(self):
        self.shelf_by_name = {}

    def shelf(self, name):
        """Tell the shelf of a name."""
        if name not in self.shelf_by_name:
            raise NoName("no table is kept by that name")
        return self.shelf_by_name[name]

    def say(self, row):
        """Answer a row of words."""
        first, told = read_desk_row(row)
        values = [self.shelf(value) if kind == "name" else value for kind, value in told]
        if first not in MAKERS:
            answer = ANSWERS[first]
            return answer(*values)
        make = MAKERS[first]
        name, *others = values
        self.shelf_by_name[name] = Shelf(make(*others))
        return DONE
