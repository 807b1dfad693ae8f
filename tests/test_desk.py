"""Point 37; points 2 and 3 (k) of it."""

import random
import unittest

from joinranks.desk import Desk
from joinranks.errors import JoinError, NoDeed, NoLead, NoName, NoNumber, NoPlace, NoRow, NoSign, NoTable
from joinranks.tables import Table
from joinranks.texts import show_numbers
from tests.plain_desk import PlainDesk
from tests.samples import abc_table, drawn_text, no_texts, plain_cut, refused, tables


def filled(name, table, desk=None):
    """A desk that keeps a table by a name."""
    desk = desk or Desk()
    desk.say(f"table {name} {table.signs()}")
    for left, right in table.rows():
        desk.say(f"join {name} {table.which(left)} {table.which(right)}")
    return desk


def said(desk, row):
    """What a desk answers: a text, or a tuple of the refusal's class and its values."""
    try:
        return desk.say(row)
    except JoinError as refusal:
        return refusal.__class__.__name__, vars(refusal)


# Rows that are right in their form and change nothing, {} being a name.
ASKING = ["signs {}", "rows {}", "text {}", "held {}", "reach {}", "cut {} abcab", "judge {} 0 1 2", "judge {}",
          "follow {} 0 1", "meets {} 0 1", "fewest {} abc", "alike {} {}"]
# Likewise, but these change something.
DOING = ["join {} 1 0", "drop {}", "hold {} abc", "change {} 0 0 a", "undo {}", "count {} 1 abab", "step {} 1"]


class Answers(unittest.TestCase):

    def say(self, *pairs):
        for row, wanted in pairs:
            told = self.desk.say(row)
            self.assertIs(told.__class__, str)
            self.assertEqual(told, wanted, row)

    def setUp(self):
        self.desk = Desk()

    def test_tables(self):
        self.say(("table a abc", "ok"), ("signs a", "abc"), ("rows a", "-"), ("join a 0 1", "3"), ("join a 1 2", "4"),
                 ("join a 0 4", "5"), ("rows a", "0 1 1 2 0 4"), ("reach a", "1"), ("drop a", "ok"),
                 ("rows a", "0 1 1 2"), ("drop a", "ok"), ("drop a", "ok"), ("rows a", "-"), ("reach a", "0"))

    def test_signs_that_are_blanks(self):
        self.say(("table blank  ", "ok"), ("signs blank", " "), ("cut blank   ", "0 0"), ("cut blank ", "-"),
                 ("table b a b", "ok"), ("signs b", "a b"), ("join b 1 2", "3"), ("cut b  b a", "3 1 0"),
                 ("hold b  a ", "ok"), ("text b", " a "), ("held b", "1 0 1"), ("table c  -", "ok"), ("signs c", " -"),
                 ("hold c -", "ok"), ("text c", "-"))

    def test_cutting_and_judging(self):
        filled("a", abc_table(), self.desk)
        self.say(("cut a ", "-"), ("cut a abcbca", "3 2 4 0"), ("judge a", "yes"), ("judge a 3 2 4 0", "yes"),
                 ("judge a 5", "alone 0"), ("judge a 0 1 5", "alone 2"), ("judge a 0 1", "border 0"),
                 ("judge a 3 2 1 2", "border 2"), ("follow a 0 0", "yes"), ("follow a 0 1", "no"),
                 ("follow a 5 0", "no"), ("follow a 3 4", "yes"), ("meets a 0 1", "0"), ("meets a 1 2", "1"),
                 ("meets a 1 0", "-"), ("meets a 0 4", "0"), ("meets a 3 2", "-"), ("fewest a ", "0"),
                 ("fewest a abc", "1"), ("fewest a abcab", "2"), ("cut a abc", "3 2"))

    def test_lead_trim_and_alike(self):
        filled("a", abc_table(), self.desk)
        filled("b", Table("bd", [("b", "d"), ("bd", "b")]), self.desk)
        self.say(("trim t a", "ok"), ("rows t", "0 1 1 2"), ("alike a t", "yes"), ("alike t a", "yes"),
                 ("drop t", "ok"), ("alike a t", "no"), ("alike a a", "yes"), ("lead ab a b", "ok"),
                 ("signs ab", "abcd"), ("rows ab", "0 1 1 2 0 5 1 3 7 1"), ("trim a a", "ok"), ("rows a", "0 1 1 2"),
                 ("lead b b a", "ok"), ("signs b", "bdac"), ("table x cba", "ok"), ("join x 2 1", "3"),
                 ("join x 1 0", "4"), ("alike x a", "yes"))

    def test_held_texts(self):
        filled("a", abc_table(), self.desk)
        self.say(("text a", ""), ("held a", "-"), ("hold a abcab", "ok"), ("text a", "abcab"), ("held a", "3 2 3"),
                 ("change a 2 1 ", "1 1 0"), ("text a", "abab"), ("change a 0 1 c", "0 1 2"),
                 ("change a 4 0 ", "3 0 0"), ("held a", "2 1 3"), ("undo a", "3 0 0"), ("undo a", "0 2 1"),
                 ("undo a", "1 0 1"), ("text a", "abcab"))
        refused(self, NoDeed, {}, self.desk.say, "undo a")
        self.say(("change a 0 5 ", "0 3 0"), ("text a", ""), ("held a", "-"), ("hold a c", "ok"))
        refused(self, NoDeed, {}, self.desk.say, "undo a")

    def test_join_and_drop_with_a_held_text(self):
        self.say(("table a abc", "ok"), ("hold a ab", "ok"), ("change a 2 0 c", "2 0 1"), ("held a", "0 1 2"),
                 ("join a 0 1", "3"), ("held a", "3 2"), ("join a 3 2", "4"), ("held a", "4"), ("text a", "abc"),
                 ("change a 3 0 ab", "1 0 1"), ("drop a", "ok"), ("held a", "3 2 3"), ("undo a", "2 1 0"),
                 ("undo a", "1 1 0"), ("text a", "ab"), ("held a", "3"), ("drop a", "ok"), ("held a", "0 1"))
        refused(self, NoDeed, {}, self.desk.say, "undo a")

    def test_counted_texts(self):
        self.say(("table a abc", "ok"), ("step a 1", "-"), ("count a 3 abab", "ok"), ("count a 2 abc", "ok"),
                 ("hold a abab", "ok"), ("change a 4 0 c", "4 0 1"), ("step a 9", "-"), ("rows a", "-"),
                 ("step a 8", "0 1 8 8"), ("rows a", "0 1"), ("held a", "3 3 2"), ("undo a", "2 1 0"),
                 ("step a 1", "3 3 3 3"), ("held a", "4"), ("drop a", "ok"), ("join a 0 2", "4"), ("step a 4", "-"),
                 ("count a 1 abab", "ok"), ("step a 4", "3 3 4 4"), ("step a 1", "3 2 2 2"), ("step a 1", "-"),
                 ("count a 5 ", "ok"), ("step a 1", "-"))

    def test_great_counts(self):
        great = "9" * 60
        self.say(("table a ab", "ok"), (f"count a {great} ab", "ok"), (f"count a {great} ab", "ok"),
                 (f"count a {great} ab", "ok"))
        many = str(3 * int(great))
        self.assertEqual(len(many), 61)
        self.say((f"step a {great}", f"0 1 {many} {many}"))

    def test_a_table_made_anew_by_the_same_name(self):
        for anew in ("table a abc", "table a ab", "trim a a", "lead a a a", "lead a b b", "trim a b"):
            filled("a", Table("abc", [("a", "b")]), self.desk)
            filled("b", Table("bac", []), self.desk)
            self.say(("hold a ab", "ok"), ("change a 0 0 ab", "0 0 1"), ("count a 3 abab", "ok"), (anew, "ok"),
                     ("text a", ""), ("held a", "-"), ("step a 1", "-"))
            refused(self, NoDeed, {}, self.desk.say, "undo a")

    def test_names(self):
        self.say(("table a a", "ok"), ("table abcdefgh b", "ok"), ("table table c", "ok"), ("table ok d", "ok"),
                 ("signs a", "a"), ("signs abcdefgh", "b"), ("signs table", "c"), ("signs ok", "d"),
                 ("alike ok ok", "yes"))

    def test_numbers_of_four_figures(self):
        self.say(("table a a", "ok"), ("hold a " + "a" * 310, "ok"), ("change a 310 0 ", "310 0 0"))
        refused(self, NoPlace, {}, self.desk.say, "change a 9999 0 ")
        refused(self, NoPlace, {}, self.desk.say, "change a 310 1 ")
        refused(self, NoNumber, {"place": 1}, self.desk.say, "judge a 0 9999")


class NoRows(unittest.TestCase):

    def setUp(self):
        self.desk = filled("a", abc_table())
        self.desk.say("hold a ab")

    def no_row(self, row):
        refused(self, NoRow, {}, self.desk.say, row)

    def test_what_is_no_text(self):
        for thing in no_texts():
            self.no_row(thing)

    def test_no_such_words(self):
        for row in ("", " ", "  ", "table", "Cut a a", "cuts a a", "a", "ok", "cut\ta a", "\ncut a a", "cut\n",
                    "signs\na", " signs a", "tables a", "name a", "JOIN a 0 1", "rank a 0"):
            self.no_row(row)

    def test_a_word_too_few_or_too_many(self):
        for row in ("signs", "signs a a", "rows", "rows a 1", "drop", "drop a a", "reach", "reach a 0", "undo",
                    "undo a 1", "text", "text a a", "held", "held a 0", "join", "join a", "join a 0", "join a 0 1 2",
                    "follow a 0", "follow a 0 1 2", "meets a", "meets a 0 1 2", "alike a", "alike a a a", "alike",
                    "trim t", "trim t a a", "lead t a", "lead t a a a", "judge", "step a", "step a 1 1", "change a 0",
                    "change a", "count a"):
            self.no_row(row)

    def test_a_word_without_signs(self):
        for row in ("signs ", "signs a ", "signs  a", "join a 0 1 ", "join a  0 1", "join a 0  1", "judge a ", "judge ",
                    "judge a 0 ", "judge a  0", "judge a 0  1", "follow a 0 ", "trim  a", "trim t ", "lead t  a",
                    "cut  a", "cut  a a", "table  abc", "change a  0 a", "change a 0  a", "count a  a", "step a ",
                    "drop a ", "text a "):
            self.no_row(row)

    def test_text_wanted_and_no_blank_there(self):
        for row in ("table a", "table", "cut a", "cut", "fewest a", "hold a", "change a 0 0", "count a 1"):
            self.no_row(row)
        for row in ("cut a ", "fewest a ", "hold a ", "change a 0 0 ", "count a 1 "):
            self.desk.say(row)
        refused(self, NoTable, {"part": "signs", "number": None}, self.desk.say, "table a ")

    def test_no_names(self):
        for name in ("abcdefghi", "A", "aB", "a1", "1", "a_", "a\n", "\ta", "-", "\xe9", "a."):
            for row in ASKING + DOING + ["table {} a", "trim {} a", "trim a {}", "lead a {} a", "lead {} a a",
                                         "lead a a {}", "alike a {}", "alike {} a"]:
                self.no_row(row.replace("{}", name))

    def test_no_numbers(self):
        for word in ("00", "01", "12345", "00001", "-1", "+1", "1.0", "a", "x1", "1\n", "-", "\u0661", "1,2", "0x1"):
            for row in ("join a {} 0", "join a 0 {}", "judge a {}", "judge a 0 0 {}", "follow a {} 0", "follow a 0 {}",
                        "meets a {} 0", "meets a 0 {}", "change a {} 0 a", "change a 0 {} a"):
                self.no_row(row.replace("{}", word))

    def test_no_counts(self):
        for word in ("0", "00", "01", "1" * 61, "-1", "+1", "1.0", "a", "1\n", "-", "\u0661"):
            self.no_row(f"count a {word} ab")
            self.no_row(f"step a {word}")

    def test_it_goes_ahead_of_all_else(self):
        for row in ("join zz 0", "join zz 00 99", "judge zz 99 01", "follow zz 0 x", "cut zz", "change zz 0 99999 x",
                    "count zz 0 xyz", "step zz 0", "lead t zz", "lead t zz A", "alike zz Z", "trim T zz", "undo zz x",
                    "judge a 99 01", "join a 99 01", "count a 0 xyz"):
            self.no_row(row)


class WhatElseIsRefused(unittest.TestCase):

    def setUp(self):
        self.desk = filled("a", abc_table())
        filled("b", Table("xy", []), self.desk)
        for row in ("hold a ab", "change a 2 0 c", "count a 2 abab"):
            self.desk.say(row)

    def test_names_that_are_not_kept(self):
        for row in ASKING + DOING:
            refused(self, NoName, {}, self.desk.say, row.replace("{}", "zz"))
            refused(self, NoName, {}, Desk().say, row.replace("{}", "a"))
        for row in ("lead t zz a", "lead t a zz", "lead zz a zz", "trim t zz", "trim zz zz", "alike a zz",
                    "alike zz a"):
            refused(self, NoName, {}, self.desk.say, row)
        for name in ("t", "zz"):
            refused(self, NoName, {}, self.desk.say, f"signs {name}")

    def test_names_go_ahead_of_what_the_points_refuse(self):
        for row in ("join zz 99 99", "judge zz 99", "cut zz XYZ", "change zz 99 99 X", "count zz 1 X", "lead t a zz",
                    "hold zz X", "alike b zz"):
            refused(self, NoName, {}, self.desk.say, row)

    def test_numbers_of_no_piece(self):
        for row, place in (("join a 6 0", 0), ("join a 0 6", 1), ("join a 9999 9999", 0), ("judge a 6", 0),
                           ("judge a 5 0 1 6 7", 3), ("follow a 6 6", 0), ("follow a 5 6", 1), ("meets a 6 0", 0),
                           ("meets a 0 6", 1)):
            refused(self, NoNumber, {"place": place}, self.desk.say, row)

    def test_rows_that_cannot_be_joined(self):
        refused(self, NoTable, {"part": "rows", "number": 3}, self.desk.say, "join a 0 1")
        refused(self, NoTable, {"part": "rows", "number": 3}, self.desk.say, "join a 3 2")
        filled("l", Table("a", [("a" * many, "a" * many) for many in (1, 2, 4, 8)]), self.desk)
        refused(self, NoTable, {"part": "rows", "number": 4}, self.desk.say, "join l 4 0")
        full = Table("abcde", [(left, right) for left in "abcde" for right in "abcde"][:24])
        filled("full", full, self.desk)
        refused(self, NoTable, {"part": "rows", "number": None}, self.desk.say, "join full 4 4")
        refused(self, NoNumber, {"place": 1}, self.desk.say, "join full 4 29")
        self.desk.say("count full 9 eeee")
        self.assertEqual(self.desk.say("step full 1"), "-")

    def test_tables_that_cannot_be(self):
        percent = chr(37)
        for signs, number in (("", None), ("abcdefghijklm", None), ("aa", 1), ("a\n", 1), (percent, 0), ("a  ", 2)):
            refused(self, NoTable, {"part": "signs", "number": number}, self.desk.say, f"table a {signs}")
        self.assertEqual(self.desk.say("rows a"), "0 1 1 2 0 4")

    def test_tables_that_do_not_go_together(self):
        refused(self, NoLead, {}, self.desk.say, "alike a b")
        filled("c", Table("bcdefghijklm", []), self.desk)
        refused(self, NoLead, {}, self.desk.say, "lead a a c")
        refused(self, NoLead, {}, self.desk.say, "lead new c a")
        refused(self, NoName, {}, self.desk.say, "signs new")

    def test_texts_of_other_signs(self):
        for row, place in (("cut a d", 0), ("cut a ab ", 2), ("cut a  ", 0), ("fewest a ab\n", 2), ("hold a abA", 2),
                           ("change a 0 0 ax", 1), ("change a 3 0  ", 0), ("count a 1 a b", 1)):
            refused(self, NoSign, {"place": place}, self.desk.say, row)

    def test_places(self):
        for row in ("change a 4 0 x", "change a 3 1 x", "change a 0 4 x", "change a 9999 9999 "):
            refused(self, NoPlace, {}, self.desk.say, row)

    def test_nothing_to_drop(self):
        refused(self, NoDeed, {}, self.desk.say, "drop b")
        refused(self, NoDeed, {}, self.desk.say, "undo b")

    def test_it_changes_nothing(self):
        rows = ["join a 6 0", "join a 0 1", "table a aa", "table a ", "lead a a zz", "trim a zz", "hold a abx",
                "hold a x", "change a 0 9 ", "change a 9 0 ", "change a 0 1 x", "count a 1 abx", "count a 0 ab",
                "step a 0", "drop zz", "undo a x", "alike a b", "cut a x", "judge a 9", None, 7, ""]
        asked = [row.replace("{}", "a") for row in ASKING] + ["undo a", "text a", "held a", "step a 1", "rows a",
                                                              "drop a", "step a 1", "rows a"]
        self.setUp()
        wanted = [said(self.desk, row) for row in asked]
        for row in rows:
            self.setUp()
            self.assertIs(said(self.desk, row).__class__, tuple)
            self.assertEqual([said(self.desk, one) for one in asked], wanted, row)


def drawn_row(chance, desk):
    """A row that is right in its form, drawn by chance, as a tuple of its words' values; names are few."""
    names = ["a", "b", "cc", "zz"]
    name = chance.choice(names[:3] if chance.random() < 0.95 else names)
    signs = desk.tables[name].signs() if name in desk.tables else "ab"
    pieces = len(desk.tables[name].pieces()) if name in desk.tables else 2

    def number():
        return chance.randrange(pieces + (1 if chance.random() < 0.1 else 0))

    def text(most):
        return drawn_text(chance, signs + ("x" if chance.random() < 0.05 else ""), chance.randrange(most + 1))

    held = len(desk.held[name][-1][0]) if name in desk.held else 0
    word = chance.choice(["table", "lead", "trim", "alike"] + 3 * [
        "join", "join", "join", "drop", "signs", "rows", "cut", "judge", "follow", "meets", "reach", "fewest", "hold",
        "change", "change", "change", "undo", "undo", "text", "held", "count", "count", "step", "step"])
    many = {"judge": chance.randrange(4), "join": 2, "follow": 2, "meets": 2}.get(word)
    if many is not None:
        return (word, name, *[number() for _ in range(many)])
    values = {
        "table": (chance.choice(["ab", "ba", "abc", "ab ", "aa", ""]),),
        "lead": (chance.choice(names[:3]), chance.choice(names[:3])), "trim": (chance.choice(names[:3]),),
        "alike": (chance.choice(names[:3]),), "cut": (text(20),), "fewest": (text(8),), "hold": (text(20),),
        "change": (chance.randrange(held + 2), chance.choice([0, 0, 1, 2]), text(4)),
        "count": (chance.choice([1, 1, 2, 5]), text(12)), "step": (chance.choice([1, 1, 2, 4]),),
    }
    return (word, name, *values.get(word, ()))


class Sought(unittest.TestCase):

    def same(self, desk, plain, values):
        """A row said to both desks; told is the answer."""
        row = " ".join(str(value) for value in values)
        wanted = plain.answer(*values)
        self.assertEqual(said(desk, row), wanted, row)
        return wanted

    def test_in_whatever_order_it_is_asked(self):
        seen = {}
        for number in range(40):
            chance = random.Random(number)
            desk, plain = Desk(), PlainDesk()
            for name in ("a", "b", "cc"):
                self.same(desk, plain, ("table", name, chance.choice(["ab", "ba", "abc", "a b"])))
            for _ in range(150):
                values = drawn_row(chance, plain)
                answer = self.same(desk, plain, values)
                kind = "refused" if isinstance(answer, tuple) else "answered"
                seen[values[0], kind] = seen.get((values[0], kind), 0) + 1
        for word in ("table", "lead", "trim", "join", "drop", "signs", "rows", "cut", "judge", "follow", "meets",
                     "reach", "alike", "fewest", "hold", "change", "undo", "text", "held", "count", "step"):
            self.assertGreater(seen[word, "answered"], 20, word)
        for word in ("table", "join", "drop", "cut", "judge", "hold", "change", "undo", "count"):
            self.assertGreater(seen[word, "refused"], 3, word)

    def test_two_desks_beside_one_another(self):
        chance = random.Random(37)
        desks = [(Desk(), PlainDesk()) for _ in range(2)]
        for desk, plain in desks:
            for name in ("a", "b", "cc"):
                self.same(desk, plain, ("table", name, chance.choice(["ab", "ba"])))
        for _ in range(400):
            desk, plain = chance.choice(desks)
            self.same(desk, plain, drawn_row(chance, plain))

    def test_tables_of_all_kinds(self):
        chance = random.Random(3737)
        for table in tables(6):
            desk = filled("a", table)
            for _ in range(10):
                text = drawn_text(chance, table.signs(), chance.choice([0, 5, 30, 310]))
                row = plain_cut(table.rows(), text)
                wanted = show_numbers([table.which(piece) for piece in row])
                self.assertEqual(desk.say("cut a " + text), wanted or "-")
                self.assertEqual(desk.say(f"judge a {wanted}".rstrip()), "yes")
                desk.say("hold a " + text)
                self.assertEqual((desk.say("text a"), desk.say("held a")), (text, wanted or "-"))


if __name__ == "__main__":
    unittest.main()
