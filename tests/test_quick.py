"""Points 17, 18 and 19, points 2 and 3 (a) and (c) of them."""

import random
import unittest

from joinranks.errors import NoPlace, NoSign
from joinranks.follows import Follows
from joinranks.quick import firsts, is_border, lasts, read_back, read_on
from joinranks.tables import Table
from tests.samples import (abc_table, drawn_text, ends_of, no_places, no_texts, plain_cut, refused, some_texts,
                           strange_things, tables)

ASKED_OF_TEXTS = (lasts, firsts, read_on, read_back)


class ByHand(unittest.TestCase):

    def setUp(self):
        self.follows = Follows(Table("abc", [("a", "b"), ("ab", "c"), ("c", "c"), ("ab", "ab")]))

    def test_lasts(self):
        self.assertEqual(lasts(self.follows, "ababcc"), [None, "a", "ab", "a", "abab", "abc", "c"])
        self.assertEqual(lasts(self.follows, "ccc"), [None, "c", "cc", "c"])
        self.assertEqual(lasts(self.follows, "b"), [None, "b"])

    def test_firsts(self):
        self.assertEqual(firsts(self.follows, "ababcc"), ["ab", "b", "abc", "b", "cc", "c", None])
        self.assertEqual(firsts(self.follows, "ccc"), ["cc", "cc", "c", None])
        self.assertEqual(firsts(self.follows, "b"), ["b", None])

    def test_read(self):
        for text, row in (("ababcc", ["ab", "abc", "c"]), ("ccc", ["cc", "c"]), ("b", ["b"]), ("ba", ["b", "a"])):
            self.assertEqual(read_on(self.follows, text), row)
            self.assertEqual(read_back(self.follows, text), row)

    def test_borders(self):
        self.assertEqual([is_border(self.follows, "ababcc", place) for place in range(7)],
                         [True, False, True, False, False, True, True])
        self.assertEqual([is_border(self.follows, "ccc", place) for place in range(4)], [True, False, True, True])
        self.assertEqual([is_border(self.follows, "b", place) for place in range(2)], [True, True])

    def test_the_text_without_signs(self):
        for table in tables(5):
            follows = Follows(table)
            self.assertEqual(lasts(follows, ""), [None])
            self.assertEqual(firsts(follows, ""), [None])
            self.assertEqual(read_on(follows, ""), [])
            self.assertEqual(read_back(follows, ""), [])
            self.assertIs(is_border(follows, "", 0), False)


class Sought(unittest.TestCase):

    def held_against_sweeping(self, table, follows, text):
        rows = table.rows()
        row = plain_cut(rows, text)
        places = range(len(text) + 1)
        self.assertEqual(lasts(follows, text), [(plain_cut(rows, text[:place]) or [None])[-1] for place in places])
        self.assertEqual(firsts(follows, text), [(plain_cut(rows, text[place:]) or [None])[0] for place in places])
        self.assertEqual(read_on(follows, text), row)
        self.assertEqual(read_back(follows, text), row)
        ends = [0] + ends_of(row) if text else []
        for place in places:
            self.assertIs(is_border(follows, text, place), place in ends)

    def test_all_is_that_of_the_plain_sweeping(self):
        for table in tables():
            follows = Follows(table)
            for text in some_texts(table.signs(), 30):
                self.held_against_sweeping(table, follows, text)

    def test_made_of_pieces(self):
        chance = random.Random(17)
        for table in tables(40):
            follows = Follows(table)
            for many in (1, 2, 3, 5, 8):
                text = "".join(chance.choice(table.pieces()) for _ in range(many))
                self.held_against_sweeping(table, follows, text)

    def test_310_signs(self):
        chance = random.Random(310)
        for table in tables(10):
            follows = Follows(table)
            for text in (drawn_text(chance, table.signs(), 310), (table.pieces()[-1] * 310)[:310]):
                row = plain_cut(table.rows(), text)
                self.assertEqual(read_on(follows, text), row)
                self.assertEqual(read_back(follows, text), row)
                ends = [0] + ends_of(row)
                for place in (0, 1, 7, 100, 154, 200, 308, 309, 310):
                    self.assertIs(is_border(follows, text, place), place in ends)

    def test_the_only_piece_that_may_be_last(self):
        for table in tables(15):
            follows = Follows(table)
            for text in some_texts(table.signs(), 20)[1:]:
                told = lasts(follows, text)
                fit = [piece for piece in follows.alone() if text.endswith(piece)
                       and (piece == text or follows.may(told[len(text) - len(piece)], piece))]
                self.assertEqual(fit, told[-1:])
                told = firsts(follows, text)
                fit = [piece for piece in follows.alone() if text.startswith(piece)
                       and (piece == text or follows.may(piece, told[len(piece)]))]
                self.assertEqual(fit, told[:1])

    def test_a_border_is_where_the_first_may_follow_the_last(self):
        for table in tables(15):
            follows = Follows(table)
            for text in some_texts(table.signs(), 20):
                ahead, behind = lasts(follows, text), firsts(follows, text)
                for place in range(1, len(text)):
                    self.assertIs(is_border(follows, text, place), follows.may(ahead[place], behind[place]))


class WhatIsRefused(unittest.TestCase):

    def setUp(self):
        self.follows = Follows(abc_table())

    def test_what_is_no_text(self):
        for thing in no_texts():
            for call in ASKED_OF_TEXTS:
                refused(self, NoSign, {"place": None}, call, self.follows, thing)
            refused(self, NoSign, {"place": None}, is_border, self.follows, thing, 0)

    def test_strange_signs(self):
        for text, place in (("d", 0), ("abd", 2), ("adbd", 1), ("a b", 1), ("abc\n", 3), ("A", 0), ("\tab", 0)):
            for call in ASKED_OF_TEXTS:
                refused(self, NoSign, {"place": place}, call, self.follows, text)
            refused(self, NoSign, {"place": place}, is_border, self.follows, text, 0)

    def test_what_is_no_place(self):
        for text in ("", "a", "abc", "abcabcabc"):
            for thing in no_places(len(text)):
                refused(self, NoPlace, {}, is_border, self.follows, text, thing)

    def test_the_text_goes_first(self):
        for thing in strange_things():
            refused(self, NoSign, {"place": 1}, is_border, self.follows, "ad", thing)
            refused(self, NoSign, {"place": None}, is_border, self.follows, None, thing)


class NothingKept(unittest.TestCase):

    def test_told_lists_are_the_askers_own(self):
        follows = Follows(abc_table())
        for call in ASKED_OF_TEXTS:
            for text in ("", "abcabc"):
                told = call(follows, text)
                self.assertIs(told.__class__, list)
                ahead = list(told)
                other = call(follows, text)
                other.append("more")
                other[0] = "changed"
                self.assertEqual(told, ahead)
                self.assertEqual(call(follows, text), ahead)


if __name__ == "__main__":
    unittest.main()
