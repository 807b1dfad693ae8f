"""Point 23, points 2 and 3 (e) of it, and what the reach of point 21 keeps ahead of a change."""

import random
import unittest

from joinranks.errors import NoCutting, NoPlace, NoSign
from joinranks.follows import Follows
from joinranks.patches import patched, recut
from joinranks.reaches import reach
from joinranks.tables import Table
from tests.samples import (ABC_WRONG, abc_table, drawn_change, drawn_text, ends_of, no_places, no_texts, plain_cut,
                           plain_patch, refused, strange_things, tables)


class ByHand(unittest.TestCase):

    def setUp(self):
        self.follows = Follows(Table("abc", [("a", "b"), ("b", "c"), ("ab", "ab"), ("c", "a")]))
        self.row = ["ab", "c", "ab", "c", "c"]

    def told(self, *change):
        return recut(self.follows, self.row, *change)

    def test_in_the_midst(self):
        self.assertEqual(self.told(4, 0, "b"), (2, ["ab", "c"], ["ab", "bc"]))
        self.assertEqual(self.told(4, 1, ""), (1, ["c", "ab"], ["ca"]))
        self.assertEqual(self.told(2, 1, ""), (0, ["ab", "c", "ab"], ["abab"]))
        self.assertEqual(self.told(2, 1, "b"), (1, ["c"], ["b"]))

    def test_at_either_end(self):
        self.assertEqual(self.told(0, 0, "c"), (0, [], ["c"]))
        self.assertEqual(self.told(0, 0, "a"), (0, [], ["a"]))
        self.assertEqual(self.told(0, 1, ""), (0, ["ab", "c"], ["bc"]))
        self.assertEqual(self.told(7, 0, "b"), (5, [], ["b"]))
        self.assertEqual(self.told(7, 0, "a"), (4, ["c"], ["ca"]))
        self.assertEqual(self.told(6, 1, ""), (4, ["c"], []))

    def test_nothing_goes_and_nothing_is_put(self):
        self.assertEqual([self.told(place, 0, "") for place in range(8)], [
            (0, [], []), (0, ["ab"], ["ab"]), (1, [], []), (2, [], []), (2, ["ab"], ["ab"]), (3, [], []), (4, [], []),
            (5, [], [])])

    def test_the_same_is_put_as_went(self):
        self.assertEqual(self.told(2, 1, "c"), (1, ["c"], ["c"]))
        self.assertEqual(self.told(1, 3, "bca"), (0, ["ab", "c", "ab"], ["ab", "c", "ab"]))

    def test_all_that_goes(self):
        self.assertEqual(self.told(0, 7, ""), (0, self.row, []))
        self.assertEqual(self.told(0, 7, "ca"), (0, self.row, ["ca"]))

    def test_the_empty_text(self):
        self.assertEqual(recut(self.follows, [], 0, 0, ""), (0, [], []))
        self.assertEqual(recut(self.follows, [], 0, 0, "abc"), (0, [], ["ab", "c"]))

    def test_patched(self):
        self.assertEqual(patched(["ab", "c", "ab"], (1, ["c"], ["b", "b"])), ["ab", "b", "b", "ab"])
        self.assertEqual(patched(["ab", "c"], (2, [], ["b"])), ["ab", "c", "b"])
        self.assertEqual(patched(["ab", "c"], (0, ["ab", "c"], [])), [])
        self.assertEqual(patched([], (0, [], [])), [])


class Sought(unittest.TestCase):

    def held_against_sweeping(self, table, follows, text, change):
        place, gone, put = change
        old = plain_cut(table.rows(), text)
        new = plain_cut(table.rows(), text[:place] + put + text[place + gone:])
        patch = recut(follows, old, place, gone, put)
        self.assertEqual(patch, plain_patch(old, new, place, gone))
        self.assertEqual(patched(old, patch), new)
        return old, new, patch

    def test_word_for_word(self):
        chance = random.Random(23)
        for table in tables(40):
            follows = Follows(table)
            for _ in range(30):
                text = drawn_text(chance, table.signs(), chance.choice([0, 1, 5, 12, 30]))
                self.held_against_sweeping(table, follows, text, drawn_change(chance, table, text))

    def test_made_of_pieces(self):
        chance = random.Random(2323)
        for table in tables(40):
            follows = Follows(table)
            for _ in range(30):
                text = "".join(chance.choice(table.pieces()) for _ in range(chance.randrange(8)))
                self.held_against_sweeping(table, follows, text, drawn_change(chance, table, text))

    def test_310_signs(self):
        chance = random.Random(310)
        for table in tables(6):
            follows = Follows(table)
            text = drawn_text(chance, table.signs(), 309)
            for change in ((0, 0, text[0]), (309, 0, text[0]), (150, 1, text[:2]), (0, 309, text), (100, 209, "")):
                self.held_against_sweeping(table, follows, text, change)

    def test_what_stays_ahead_and_behind(self):
        chance = random.Random(21)
        for table in tables(40):
            follows, far = Follows(table), reach(table)
            for _ in range(30):
                text = drawn_text(chance, table.signs(), chance.choice([5, 12, 30]))
                place, gone, put = drawn_change(chance, table, text)
                old, new, (first, out, into) = self.held_against_sweeping(table, follows, text, (place, gone, put))
                self.assertGreaterEqual(first, len([end for end in ends_of(old) if end + far <= place]))
                # Borders by the signs behind them: from the first shared one on all is the same.
                behind = len(text) - place - gone
                both = [{len("".join(row)) - end for end in [0] + ends_of(row)} for row in (old, new)]
                shared = max(signs for signs in both[0] & both[1] if signs <= behind)
                self.assertEqual(len("".join(old[first + len(out):])), shared)
                self.assertEqual(len("".join(new[first + len(into):])), shared)


class WhatIsRefused(unittest.TestCase):

    def setUp(self):
        self.follows = Follows(abc_table())

    def test_what_is_no_cutting(self):
        for (kind, place), thing in ABC_WRONG:
            refused(self, NoCutting, {"kind": kind, "place": place}, recut, self.follows, thing, 0, 0, "")
            # It goes ahead of all else that is wrong.
            refused(self, NoCutting, {"kind": kind, "place": place}, recut, self.follows, thing, -1, -1, None)
        for thing in strange_things():
            if thing.__class__ != list:
                refused(self, NoCutting, {"kind": "form", "place": None}, recut, self.follows, thing, 0, 0, "")

    def test_what_is_no_place(self):
        for row in ([], ["ab", "c"]):
            for thing in no_places(len("".join(row))):
                refused(self, NoPlace, {}, recut, self.follows, row, thing, 0, "")
                refused(self, NoPlace, {}, recut, self.follows, row, thing, None, "d")

    def test_what_is_no_number_gone(self):
        for row, place in (([], 0), (["ab", "c"], 0), (["ab", "c"], 1), (["ab", "c"], 3)):
            for thing in no_places(len("".join(row)) - place):
                refused(self, NoPlace, {}, recut, self.follows, row, place, thing, "")
                # It goes ahead of what is put.
                refused(self, NoPlace, {}, recut, self.follows, row, place, thing, None)
                refused(self, NoPlace, {}, recut, self.follows, row, place, thing, "d")

    def test_what_is_no_text_put(self):
        for thing in no_texts():
            refused(self, NoSign, {"place": None}, recut, self.follows, ["ab", "c"], 1, 1, thing)
        for text, place in (("d", 0), ("abd", 2), ("a\n", 1), ("A", 0)):
            refused(self, NoSign, {"place": place}, recut, self.follows, ["ab", "c"], 3, 0, text)


class NothingKept(unittest.TestCase):

    def setUp(self):
        self.follows = Follows(abc_table())

    def test_what_is_handed_in_stays(self):
        row = ["ab", "c", "ab"]
        patch = recut(self.follows, row, 2, 1, "a")
        self.assertEqual(row, ["ab", "c", "ab"])
        row.clear()
        self.assertEqual(patch, (1, ["c"], ["a"]))

    def test_told_lists_are_new(self):
        row = ["ab", "c", "ab"]
        for change in ((0, 0, ""), (0, 5, "abcab"), (2, 1, "a"), (5, 0, "")):
            patch = recut(self.follows, row, *change)
            again = recut(self.follows, row, *change)
            self.assertEqual([patch.__class__, patch[1].__class__, patch[2].__class__], [tuple, list, list])
            self.assertEqual(patch[0].__class__, int)
            patch[1].append("changed")
            self.assertEqual(patch[2], again[2])
            patch[2].append("changed")
            self.assertEqual(row, ["ab", "c", "ab"])
            self.assertEqual(recut(self.follows, row, *change), again)

    def test_patched_is_new(self):
        for row, patch in ((["ab", "c"], (0, [], [])), (["ab"], (0, ["ab"], ["c"])), ([], (0, [], ["c"]))):
            ahead = list(row), (patch[0], list(patch[1]), list(patch[2]))
            told = patched(row, patch)
            told.append("changed")
            self.assertEqual((row, patch), ahead)
            self.assertEqual(patched(row, patch), told[:-1])


if __name__ == "__main__":
    unittest.main()
