"""The fewest pieces: point 35, points 2 and 3 (j) of it."""

import random
import unittest

from joinranks.errors import NoSign
from joinranks.fewest import fewest, heights, how_many_fewest
from joinranks.splitting import is_splitting, lets_heights
from joinranks.sweeping import swept
from joinranks.tables import Table
from tests.plain_splitting import all_splittings
from tests.samples import abc_table, drawn_text, no_texts, refused, some_texts, tables


class ByHand(unittest.TestCase):

    def test_the_text_without_signs(self):
        for table in tables(3):
            self.assertEqual((heights(table, ""), fewest(table, ""), how_many_fewest(table, "")), ([0], [], 1))

    def test_fewer_than_the_cutting_has(self):
        # The sweeping joins a and b first, so abc is no piece of a cutting; in a splitting it may stand.
        self.assertEqual(swept(abc_table(), "abc"), ["ab", "c"])
        self.assertEqual(fewest(abc_table(), "abc"), ["abc"])
        self.assertEqual(heights(abc_table(), "abc")[-1], 1)
        self.assertEqual(how_many_fewest(abc_table(), "abc"), 1)

    def test_several(self):
        table = Table("abc", [("a", "b"), ("b", "c")])
        self.assertIn(fewest(table, "abc"), (["ab", "c"], ["a", "bc"]))
        self.assertEqual(how_many_fewest(table, "abc"), 2)
        self.assertEqual(how_many_fewest(Table("a", [("a", "a")]), "aaaaa"), 3)
        self.assertEqual(how_many_fewest(Table("ba", []), "abba"), 1)


class Sought(unittest.TestCase):

    def test_all_splittings_of_short_texts(self):
        for table in tables(15):
            for text in [text for text in some_texts(table.signs(), 40) if len(text) <= 11]:
                rows = all_splittings(table.pieces(), text)
                few = min(len(row) for row in rows)
                told = heights(table, text)
                self.assertIs(lets_heights(table, text, told), True)
                self.assertEqual(told[-1], few)
                row = fewest(table, text)
                self.assertIn(row, rows)
                self.assertEqual(len(row), few)
                self.assertEqual(how_many_fewest(table, text), len([row for row in rows if len(row) == few]))

    def test_longer_texts(self):
        chance = random.Random(35)
        for table in tables(10):
            for text in (drawn_text(chance, table.signs(), 310), "".join(chance.choices(table.pieces(), k=60))[:310]):
                told, row = heights(table, text), fewest(table, text)
                # Both bind one another: no splitting has fewer pieces than the heights tell, and this one has as many.
                self.assertIs(lets_heights(table, text, told), True)
                self.assertIs(is_splitting(table, text, row), True)
                self.assertEqual(len(row), told[-1])
                self.assertLessEqual(len(row), len(swept(table, text)))
                self.assertGreaterEqual(how_many_fewest(table, text), 1)

    def test_so_many_that_they_cannot_be_gone_through(self):
        self.assertEqual(how_many_fewest(Table("abc", [("a", "b"), ("b", "c")]), "abc" * 103), 2 ** 103)
        table = Table("a", [("a", "a"), ("a", "aa")])
        # Of 104 pieces: two of two signs each and the others of three, or one of one sign and the others of three.
        self.assertEqual(len(fewest(table, "a" * 310)), 104)
        self.assertEqual(how_many_fewest(table, "a" * 310), 104 * 103 // 2 + 104)


class WhatIsRefused(unittest.TestCase):

    def test_texts(self):
        for call in (heights, fewest, how_many_fewest):
            for thing in no_texts():
                refused(self, NoSign, {"place": None}, call, abc_table(), thing)
            for text, place in (("d", 0), ("abd", 2), ("a\n", 1), (" a", 0), ("ABC", 0)):
                refused(self, NoSign, {"place": place}, call, abc_table(), text)


class NothingKept(unittest.TestCase):

    def test_told_lists_are_the_askers_own(self):
        for call in (heights, fewest):
            for text in ("", "abcab"):
                told = call(abc_table(), text)
                kept = list(told)
                self.assertIs(told.__class__, list)
                told.append("changed")
                told[0] = "changed"
                self.assertEqual(call(abc_table(), text), kept)


if __name__ == "__main__":
    unittest.main()
