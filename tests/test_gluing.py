"""Point 20, point 2 of it, and the refusals of point 15 where a cutting is handed in."""

import random
import unittest

from joinranks.errors import NoCutting, NoPlace
from joinranks.follows import Follows
from joinranks.gluing import glued, parted
from joinranks.tables import Table
from tests.samples import (ABC_WRONG, abc_table, drawn_text, no_places, plain_cut, refused, some_texts,
                           strange_things, tables)


class ByHand(unittest.TestCase):

    def setUp(self):
        self.follows = Follows(Table("abc", [("a", "b"), ("b", "c"), ("ab", "ab"), ("c", "a")]))

    def test_glued(self):
        self.assertEqual(glued(self.follows, ["a"], ["bc"]), ["ab", "c"])
        self.assertEqual(glued(self.follows, ["ab", "c"], ["ab"]), ["ab", "c", "ab"])
        self.assertEqual(glued(self.follows, ["ab", "c"], ["a"]), ["ab", "ca"])
        self.assertEqual(glued(self.follows, ["ab"], ["abab", "c"]), ["abab", "ab", "c"])

    def test_one_of_both_empty(self):
        self.assertEqual(glued(self.follows, [], []), [])
        self.assertEqual(glued(self.follows, [], ["ab", "c"]), ["ab", "c"])
        self.assertEqual(glued(self.follows, ["ab", "c"], []), ["ab", "c"])

    def test_parted(self):
        self.assertEqual(parted(self.follows, ["ab", "c"], 1), (["a"], ["bc"]))
        self.assertEqual(parted(self.follows, ["ab", "c"], 2), (["ab"], ["c"]))
        self.assertEqual(parted(self.follows, ["ab", "ca"], 3), (["ab", "c"], ["a"]))

    def test_parted_at_either_end(self):
        self.assertEqual(parted(self.follows, ["ab", "c"], 0), ([], ["ab", "c"]))
        self.assertEqual(parted(self.follows, ["ab", "c"], 3), (["ab", "c"], []))
        self.assertEqual(parted(self.follows, [], 0), ([], []))


class Sought(unittest.TestCase):

    def test_parted_and_glued(self):
        for table in tables():
            follows, rows = Follows(table), table.rows()
            for text in some_texts(table.signs(), 30):
                row = plain_cut(rows, text)
                for place in range(len(text) + 1):
                    both = parted(follows, row, place)
                    self.assertEqual(both, (plain_cut(rows, text[:place]), plain_cut(rows, text[place:])))
                    self.assertEqual(glued(follows, both[0], both[1]), row)

    def test_any_grouping(self):
        chance = random.Random(20)
        for table in tables():
            follows = Follows(table)
            for _ in range(10):
                one, two, three = [plain_cut(table.rows(), drawn_text(chance, table.signs(), chance.randrange(9)))
                                   for _ in range(3)]
                self.assertEqual(glued(follows, glued(follows, one, two), three),
                                 glued(follows, one, glued(follows, two, three)))

    def test_310_signs(self):
        chance = random.Random(310)
        for table in tables(5):
            follows = Follows(table)
            text = drawn_text(chance, table.signs(), 310)
            row = plain_cut(table.rows(), text)
            for place in (0, 1, 155, 309, 310):
                both = parted(follows, row, place)
                self.assertEqual(both, (plain_cut(table.rows(), text[:place]), plain_cut(table.rows(), text[place:])))
                self.assertEqual(glued(follows, both[0], both[1]), row)


class WhatIsRefused(unittest.TestCase):

    def setUp(self):
        self.follows = Follows(abc_table())

    def test_what_is_no_cutting(self):
        for (kind, place), thing in ABC_WRONG:
            values = {"kind": kind, "place": place}
            refused(self, NoCutting, values, glued, self.follows, thing, ["a"])
            refused(self, NoCutting, values, glued, self.follows, ["a"], thing)
            refused(self, NoCutting, values, glued, self.follows, [], thing)
            refused(self, NoCutting, values, parted, self.follows, thing, 0)

    def test_things_of_other_kinds(self):
        for thing in strange_things():
            if thing.__class__ != list:
                for call in (glued, parted):
                    refused(self, NoCutting, {"kind": "form", "place": None}, call, self.follows, thing, 0)
                refused(self, NoCutting, {"kind": "form", "place": None}, glued, self.follows, ["a"], thing)

    def test_one_goes_ahead_of_other(self):
        refused(self, NoCutting, {"kind": "border", "place": 0}, glued, self.follows, ["a", "b"], None)
        refused(self, NoCutting, {"kind": "form", "place": None}, glued, self.follows, None, ["a", "b"])
        refused(self, NoCutting, {"kind": "alone", "place": 1}, glued, self.follows, ["a", "abc"], [None])

    def test_what_is_no_place(self):
        for row in ([], ["a"], ["ab", "c"]):
            for thing in no_places(len("".join(row))):
                refused(self, NoPlace, {}, parted, self.follows, row, thing)

    def test_the_cutting_goes_ahead_of_the_place(self):
        for thing in strange_things() + [99]:
            refused(self, NoCutting, {"kind": "border", "place": 0}, parted, self.follows, ["a", "b"], thing)


class NothingKept(unittest.TestCase):

    def setUp(self):
        self.follows = Follows(abc_table())

    def test_what_is_handed_in_stays(self):
        one, other = ["ab", "c"], ["a"]
        told = glued(self.follows, one, other)
        both = parted(self.follows, one, 3)
        self.assertEqual((one, other), (["ab", "c"], ["a"]))
        one.clear()
        other.append("b")
        self.assertEqual(told, ["ab", "c", "a"])
        self.assertEqual(both, (["ab", "c"], []))

    def test_told_lists_are_the_askers_own(self):
        for one, other in (([], []), (["ab"], []), ([], ["ab"]), (["ab"], ["c"])):
            told = glued(self.follows, one, other)
            self.assertIs(told.__class__, list)
            ahead = (list(one), list(other))
            told.append("more")
            self.assertEqual((one, other), ahead)
            self.assertEqual(glued(self.follows, one, other), told[:-1])

    def test_both_parts_are_new(self):
        for row in ([], ["ab", "c"]):
            for place in range(len("".join(row)) + 1):
                told = parted(self.follows, row, place)
                self.assertEqual([told.__class__, told[0].__class__, told[1].__class__], [tuple, list, list])
                ahead = parted(self.follows, row, place)
                told[0].append("more")
                self.assertEqual(told[1], ahead[1])
                told[1].append("more")
                self.assertEqual(parted(self.follows, row, place), ahead)
                self.assertIn(row, ([], ["ab", "c"]))


if __name__ == "__main__":
    unittest.main()
