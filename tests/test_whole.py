"""What holds over the whole program: points 2 and 3, one cutting told in all ways, the order of two refusals."""

import itertools
import random
import unittest

from joinranks.alike import unlike_text
from joinranks.counting import beside, best_pair
from joinranks.desk import Desk
from joinranks.errors import NoCount, NoCutting, NoGrammar, NoPiece, NoPlace, NoSign, NoTable
from joinranks.fewest import fewest, heights, how_many_fewest
from joinranks.follows import Follows
from joinranks.gluing import glued, parted
from joinranks.grammars import Grammar
from joinranks.joinings import joinings, lets_joinings
from joinranks.judging import what_is_wrong
from joinranks.kept import Kept
from joinranks.learner import Learner
from joinranks.learning import learnt
from joinranks.meets import idle_pieces, left_edge, may_follow, meets, right_edge, stands_alone
from joinranks.numbered import cutting_of, how_many, number_of
from joinranks.numbering import borders_of, numbers_of, pieces_of, text_of
from joinranks.patches import patched, recut
from joinranks.quick import firsts, is_border, lasts, read_back, read_on
from joinranks.reaches import reach
from joinranks.splitting import is_splitting, lets_heights
from joinranks.streams import Stream
from joinranks.sweeping import passed, rows_on_the_way, signs_of, swept, swept_from
from joinranks.tables import Table
from joinranks.tableworks import beginning, led, renamed, trimmed
from joinranks.texts import read_numbers, read_table, show_numbers, show_table
from joinranks.walking import may_end, next_pieces, way_on
from tests.plain_grammars import loops
from tests.plain_splitting import all_splittings
from tests.samples import abc_table, drawn_text, plain_cut, refused, tables, texts


def by_joinings(table, text):
    """The cutting by the borders that the joinings leave."""
    gone = {place for rank, place in joinings(table, text)}
    ends = [place for place in range(1, len(text) + 1) if place not in gone]
    return [text[begin:end] for begin, end in zip([0] + ends, ends)]


def by_borders(table, text):
    """The cutting by asking each place whether a border is there."""
    follows = Follows(table)
    ends = [place for place in range(1, len(text) + 1) if is_border(follows, text, place)]
    return [text[begin:end] for begin, end in zip([0] + ends, ends)]


def by_stream(table, text):
    """The cutting by a stream, sign by sign."""
    stream = Stream(table)
    told = []
    for sign in text:
        told += stream.put(sign)
    return told + stream.rest()


def by_changes(table, text):
    """The cutting by a kept text that begins otherwise, and is changed to the text and back and again."""
    kept = Kept(table, text[::-1])
    row = kept.cutting()
    for place in range(len(text)):
        row = patched(row, kept.change(place, 1, text[place]))
    row = patched(row, kept.change(0, len(text), ""))
    row = patched(row, kept.undo())
    return row if row == kept.cutting() else None


def by_gluing(table, text):
    """The cutting glued of the signs from the end, then parted in the midst and glued again."""
    follows = Follows(table)
    row = []
    for sign in reversed(text):
        row = glued(follows, [sign], row)
    return glued(follows, *parted(follows, row, len(text) // 2))


def by_number(table, text):
    """The cutting of the number that it has among all of as many signs."""
    follows, grammar = Follows(table), Grammar(1, loops(table.signs()), [0])
    return cutting_of(follows, grammar, len(text), number_of(follows, grammar, read_on(follows, text)))


def by_walking(table, text):
    """The cutting as the way on from nothing, by a grammar that tells just this text; it has to be a short one."""
    follows = Follows(table)
    if len(text) > 3:
        return read_on(follows, text)
    ways = [(at, sign, at + 1) for at, sign in enumerate(text)]
    return way_on(follows, Grammar(4, ways, [len(text)]), [])


def by_desk(table, text):
    """The cutting by a desk, held while the table's rows are joined, one by one."""
    desk = Desk()
    desk.say("table it " + table.signs())
    desk.say("hold it " + text)
    for left, right in table.rows():
        desk.say(f"join it {table.which(left)} {table.which(right)}")
    told = [desk.say("held it"), desk.say("cut it " + text)]
    numbers = [] if told[0] == "-" else read_numbers(told[0])
    judged = desk.say(" ".join(["judge it"] + [str(number) for number in numbers]))
    return pieces_of(table, numbers) if told[0] == told[1] and judged == "yes" else None


WAYS = [
    swept,
    lambda table, text: rows_on_the_way(table, text)[-1],
    lambda table, text: swept_from(table, signs_of(table, text), 0),
    lambda table, text: read_on(Follows(table), text),
    lambda table, text: read_back(Follows(table), text),
    lambda table, text: swept(trimmed(table), text),
    lambda table, text: swept(read_table(show_table(table)), text),
    lambda table, text: swept(led(table, table), text),
    lambda table, text: swept(beginning(table, len(table.rows())), text),
    lambda table, text: pieces_of(table, read_numbers(show_numbers(numbers_of(table, swept(table, text))))),
    by_joinings, by_borders, by_stream, by_changes, by_gluing, by_number, by_walking, by_desk,
]


class OneCutting(unittest.TestCase):

    def test_told_in_all_ways(self):
        chance = random.Random(3)
        for table in tables(12):
            few = texts(table.signs(), 3)[:40]
            drawn = [drawn_text(chance, table.signs(), many) for many in (9, 17, 24)]
            for text in few + drawn + ["".join(chance.choices(table.pieces(), k=4))[:24]]:
                wanted = plain_cut(table.rows(), text)
                for way in WAYS:
                    self.assertEqual(way(table, text), wanted)

    def test_the_only_row_that_is_let_by(self):
        for table in tables(12):
            follows = Follows(table)
            for text in [text for text in texts(table.signs(), 5)[:60] + table.pieces() if len(text) <= 9]:
                let = [row for row in all_splittings(table.pieces(), text) if what_is_wrong(follows, row) is None]
                self.assertEqual(let, [plain_cut(table.rows(), text)])


def frozen(thing):
    """A thing as it is now, lists told apart from tuples."""
    if isinstance(thing, (list, tuple)):
        return thing.__class__, tuple(frozen(one) for one in thing)
    if isinstance(thing, Table):
        return "table", thing.signs(), frozen(thing.rows()), frozen(thing.pieces())
    if isinstance(thing, Follows):
        return "follows", frozen(thing.alone()), frozen([thing.after(piece) for piece in thing.table().pieces()])
    if isinstance(thing, Grammar):
        return "grammar", thing.many(), frozen(thing.ways()), frozen(thing.ends())
    return thing.__class__, thing


def spoil(thing):
    """All lists within a thing are changed."""
    if isinstance(thing, (list, tuple)):
        for one in thing:
            spoil(one)
    if isinstance(thing, list):
        thing.append("changed")
        thing.reverse()


def all_calls():
    """Each function of the interface that tells or takes lists, with fresh arguments."""
    table = Table("abc", [("a", "b"), ("b", "c"), ("a", "bc"), ("ab", "ab"), ("c", "c")])
    other = Table("cba", [("b", "c"), ("c", "a")])
    follows, grammar = Follows(table), Grammar(2, loops("abc", 2), [1])
    return [
        (Table, "abc", [("a", "b"), ("ab", "c")]), (signs_of, table, "abc"), (passed, table, ["a", "b", "c"], 0),
        (swept_from, table, ["a", "b", "c"], 1), (swept_from, table, ["a", "b"], 5), (swept, table, "abcab"),
        (rows_on_the_way, table, "abcab"), (rows_on_the_way, other, "ba"), (joinings, table, "abcab"),
        (lets_joinings, table, "ab", [(0, 1)]), (meets, table, "ab", "c"), (stands_alone, table, "ab"),
        (may_follow, table, "ab", "c"), (idle_pieces, table), (right_edge, table, "abab"), (left_edge, table, "abab"),
        (what_is_wrong, follows, ["ab", "c"]), (what_is_wrong, follows, [["ab"], "c"]), (text_of, table, ["ab", "c"]),
        (numbers_of, table, ["ab", "c"]), (borders_of, table, ["ab", "c"]), (pieces_of, table, [0, 3]),
        (lasts, follows, "abcab"), (firsts, follows, "abcab"), (read_on, follows, "abcab"), (read_back, follows, "ab"),
        (is_border, follows, "abc", 2), (glued, follows, ["ab"], ["ab", "c"]), (glued, follows, [], ["ab", "c"]),
        (glued, follows, ["ab"], []), (parted, follows, ["abab", "c"], 2), (parted, follows, ["ab", "c"], 0),
        (reach, table), (recut, follows, ["ab", "c"], 2, 1, "ab"), (recut, follows, ["ab", "c"], 3, 0, ""),
        (patched, ["ab", "c"], (1, ["c"], ["b", "b"])), (patched, ["ab", "c"], (2, [], [])),
        (beside, table, [("abc", 2), ("cab", 1)]), (best_pair, table, [("abcab", 2)], 1),
        (learnt, table, [("abcab", 2)], 2, 1), (learnt, table, [], 2, 1), (beginning, table, 2),
        (renamed, table, "bca"), (led, table, other), (trimmed, table), (unlike_text, table, other),
        (Grammar, 2, [(0, "a", 1)], [1]), (next_pieces, follows, grammar, ["ab", "c"]),
        (may_end, follows, grammar, ["ab", "c"]), (way_on, follows, grammar, ["ab"]), (way_on, follows, grammar, []),
        (how_many, follows, grammar, 5), (cutting_of, follows, grammar, 5, 7),
        (number_of, follows, grammar, ["ab", "c"]), (is_splitting, table, "abc", ["ab", "c"]),
        (lets_heights, table, "ab", [0, 1, 1]), (heights, table, "abcab"), (fewest, table, "abcab"),
        (how_many_fewest, table, "abcab"), (show_table, table), (read_table, "signs ab\n0 1"), (show_numbers, [1, 2]),
        (read_numbers, "1 2"),
    ]


class NothingKept(unittest.TestCase):

    def test_nothing_handed_in_is_changed(self):
        for call, *told in all_calls():
            ahead = frozen(told)
            call(*told)
            self.assertEqual(frozen(told), ahead, call)

    def test_told_lists_are_the_askers_own(self):
        for call, *told in all_calls():
            answer = call(*told)
            ahead, ours = frozen(answer), frozen(told)
            spoil(answer)
            self.assertEqual(frozen(told), ours, call)
            self.assertEqual(frozen(call(*told)), ahead, call)

    def test_what_is_done_to_a_list_behind_the_call(self):
        for call, *told in all_calls():
            answer = call(*told)
            ahead = frozen(answer)
            spoil(told)
            self.assertEqual(frozen(answer), ahead, call)

    def test_what_was_asked_ahead_does_not_matter(self):
        ahead = [frozen(call(*told)) for call, *told in all_calls()]
        calls = all_calls()
        behind = {at: frozen(calls[at][0](*calls[at][1:])) for at in reversed(range(len(calls)))}
        self.assertEqual([behind[at] for at in range(len(calls))], ahead)

    def test_objects_tell_lists_of_their_own(self):
        table = abc_table()
        for made, names in ((table, ("rows", "pieces")), (Follows(table), ("alone",)),
                            (Grammar(2, loops("abc", 2), [1, 0]), ("ways", "ends"))):
            for name in names:
                told = getattr(made, name)()
                ahead = frozen(made)
                spoil(told)
                self.assertEqual(frozen(made), ahead)
        follows = Follows(table)
        for call in (follows.after, follows.ahead):
            for piece in table.pieces():
                ahead = frozen(call(piece))
                spoil(call(piece))
                self.assertEqual(frozen(call(piece)), ahead)


class TwoRefusals(unittest.TestCase):

    def test_that_of_the_argument_farther_to_the_left_goes_first(self):
        table = abc_table()
        follows, grammar, kept, learner = Follows(table), Grammar(1, [], []), Kept(table, "ab"), Learner(table)
        form, border = {"kind": "form", "place": None}, {"kind": "border", "place": 0}
        for error, values, call, *told in (
                (NoTable, {"part": "signs", "number": 1}, Table, "aa", None),
                (NoPiece, {"place": None}, passed, table, None, None),
                (NoPiece, {"place": 1}, passed, table, ["a", "x"], -1),
                (NoPiece, {"place": None}, swept_from, table, "a", 99),
                (NoSign, {"place": 1}, lets_joinings, table, "ax", None),
                (NoSign, {"place": 1}, meets, table, "ax", None),
                (NoSign, {"place": None}, meets, table, "a", None),
                (NoPiece, {"place": None}, may_follow, table, None, "a"),
                (NoSign, {"place": 1}, is_border, follows, "ax", 99),
                (NoCutting, border, glued, follows, ["a", "b"], None),
                (NoCutting, form, glued, follows, ["a"], None),
                (NoCutting, border, parted, follows, ["a", "b"], None),
                (NoCutting, form, recut, follows, None, None, None, None),
                (NoPlace, {}, recut, follows, ["a"], 2, None, "x"),
                (NoPlace, {}, recut, follows, ["a"], 1, 1, "x"),
                (NoSign, {"place": 0}, recut, follows, ["a"], 1, 0, "x"),
                (NoPlace, {}, kept.change, 3, 0, "x"),
                (NoSign, {"place": 0}, kept.change, 2, 0, "x"),
                (NoSign, {"place": 0}, learner.put, "x", 0),
                (NoCount, {"number": None}, learner.put, "a", 0),
                (NoSign, {"place": 0}, learner.take, "x", 0),
                (NoSign, {"place": 0}, beside, table, [("x", 0)]),
                (NoCount, {"number": 0}, beside, table, [("a", 0), ("x", 1)]),
                (NoGrammar, {"part": "many", "number": None}, Grammar, 0, None, None),
                (NoGrammar, {"part": "ways", "number": 0}, Grammar, 1, [None], None),
                (NoPlace, {}, grammar.leads, 1, None),
                (NoSign, {"place": 0}, is_splitting, table, "x", None),
                (NoSign, {"place": 0}, lets_heights, table, "x", None)):
            refused(self, error, values, call, *told)


class BesideOneAnother(unittest.TestCase):

    def test_objects_go_on_by_themselves(self):
        table = abc_table()
        for order in itertools.permutations(range(3)):
            stream, kept, desk = Stream(table), Kept(table, "ab"), Desk()
            desk.say("table a abc")
            learner = Learner(table)
            deeds = [lambda: stream.put("abc"), lambda: kept.change(2, 0, "c"), lambda: desk.say("hold a abc")]
            for at in order:
                deeds[at]()
            learner.put("abc", 1)
            self.assertEqual((stream.text(), kept.text(), desk.say("text a")), ("abc", "abc", "abc"))
            self.assertEqual((learner.counted(), table.rows()), ([("abc", 1)], abc_table().rows()))


if __name__ == "__main__":
    unittest.main()
