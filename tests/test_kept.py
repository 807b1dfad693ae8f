"""Point 24, and point 2 of it."""

import random
import unittest

from joinranks.errors import NoDeed, NoLead, NoPlace, NoSign
from joinranks.follows import Follows
from joinranks.kept import Kept
from joinranks.patches import patched, recut
from joinranks.tables import Table
from tests.samples import abc_table, drawn_change, drawn_text, no_places, no_texts, plain_cut, refused, tables


def all_told(kept):
    """All that a kept text tells, but for what can be undone."""
    return kept.text(), kept.cutting(), [kept.piece_at(place) for place in range(len(kept.text()))]


def all_undone(kept):
    """What is told by undoing all, of a twin, so that the kept text stays as it is."""
    other = kept.twin()
    told = []
    while True:
        try:
            told.append((other.undo(), other.text(), other.cutting()))
        except NoDeed:
            return told


def other_table(chance, table):
    """A table of the same signs in another order, with other rows."""
    signs = "".join(chance.sample(table.signs(), len(table.signs())))
    pairs = [(left, right) for left in signs for right in signs]
    return Table(signs, chance.sample(pairs, min(3, len(pairs))))


class ByHand(unittest.TestCase):

    def test_changes_and_undoing(self):
        kept = Kept(abc_table(), "abcab")
        self.assertEqual(kept.change(2, 1, ""), (1, ["c"], []))
        self.assertEqual((kept.text(), kept.cutting()), ("abab", ["ab", "ab"]))
        self.assertEqual(kept.change(0, 1, "c"), (0, ["ab"], ["c", "b"]))
        self.assertEqual(kept.change(2, 2, "c"), (1, ["b", "ab"], ["bc"]))
        self.assertEqual((kept.text(), kept.cutting()), ("cbc", ["c", "bc"]))
        self.assertEqual(kept.undo(), (1, ["bc"], ["b", "ab"]))
        self.assertEqual((kept.text(), kept.cutting()), ("cbab", ["c", "b", "ab"]))
        self.assertEqual(kept.undo(), (0, ["c", "b"], ["ab"]))
        self.assertEqual(kept.undo(), (1, [], ["c"]))
        self.assertEqual((kept.text(), kept.cutting()), ("abcab", ["ab", "c", "ab"]))
        refused(self, NoDeed, {}, kept.undo)

    def test_what_was_undone_is_not_undone_again(self):
        kept = Kept(abc_table(), "a")
        kept.change(1, 0, "b")
        kept.change(2, 0, "c")
        kept.undo()
        kept.change(0, 0, "cc")
        self.assertEqual([step[1] for step in all_undone(kept)], ["ab", "a"])

    def test_a_change_of_nothing_is_one_too(self):
        kept = Kept(abc_table(), "ab")
        self.assertEqual(kept.change(1, 0, ""), (0, ["ab"], ["ab"]))
        self.assertEqual(kept.change(2, 0, ""), (1, [], []))
        self.assertEqual(kept.undo(), (1, [], []))
        self.assertEqual(kept.undo(), (0, ["ab"], ["ab"]))
        refused(self, NoDeed, {}, kept.undo)

    def test_the_empty_text(self):
        kept = Kept(abc_table(), "")
        self.assertEqual((kept.text(), kept.cutting()), ("", []))
        refused(self, NoPlace, {}, kept.piece_at, 0)
        refused(self, NoDeed, {}, kept.undo)
        self.assertEqual(kept.change(0, 0, ""), (0, [], []))
        self.assertEqual(kept.change(0, 0, "abc"), (0, [], ["ab", "c"]))
        self.assertEqual(kept.change(0, 3, ""), (0, ["ab", "c"], []))
        self.assertEqual(kept.undo(), (0, [], ["ab", "c"]))

    def test_piece_at(self):
        kept = Kept(abc_table(), "abcbca")
        self.assertEqual([kept.piece_at(place) for place in range(6)], [0, 0, 1, 2, 2, 3])

    def test_table(self):
        table, other = abc_table(), Table("bca", [])
        kept = Kept(table, "abc")
        self.assertIs(kept.table(), table)
        kept.change(0, 1, "")
        self.assertIs(kept.table(), table)
        self.assertIs(kept.twin().table(), table)
        self.assertIs(kept.under(other).table(), other)
        self.assertIs(kept.table(), table)

    def test_under(self):
        kept = Kept(abc_table(), "abc")
        kept.change(3, 0, "a")
        kept.change(0, 1, "")
        other = kept.under(Table("cba", [("b", "c"), ("a", "bc"), ("c", "a")]))
        self.assertEqual(all_told(other), ("bca", ["bc", "a"], [0, 0, 1]))
        self.assertEqual(other.undo(), (0, ["bc"], ["abc"]))
        self.assertEqual(other.undo(), (1, ["a"], []))
        self.assertEqual(all_told(other), ("abc", ["abc"], [0, 0, 0]))
        refused(self, NoDeed, {}, other.undo)
        self.assertEqual(all_told(kept), ("bca", ["bc", "a"], [0, 0, 1]))
        self.assertEqual(kept.undo(), (0, ["bc"], ["ab", "c"]))


class Sought(unittest.TestCase):

    def test_changed_and_undone_in_any_order(self):
        chance = random.Random(24)
        for table in tables():
            follows = Follows(table)
            text = drawn_text(chance, table.signs(), chance.choice([0, 5, 30]))
            kept = Kept(table, text)
            back = []
            for _ in range(25):
                old, cut = kept.text(), kept.cutting()
                if back and chance.random() < 0.4:
                    text, change = back.pop()
                    patch = kept.undo()
                else:
                    place, gone, put = change = drawn_change(chance, table, old)
                    text = old[:place] + put + old[place + gone:]
                    back.append((old, (place, len(put), old[place:place + gone])))
                    patch = kept.change(place, gone, put)
                self.assertEqual(patch, recut(follows, cut, *change))
                self.assertEqual(patched(cut, patch), kept.cutting())
                row = plain_cut(table.rows(), text)
                places = [number for number, piece in enumerate(row) for _ in piece]
                self.assertEqual(all_told(kept), (text, row, places))
            while back:
                text, change = back.pop()
                cut = kept.cutting()
                self.assertEqual(kept.undo(), recut(follows, cut, *change))
                self.assertEqual((kept.text(), kept.cutting()), (text, plain_cut(table.rows(), text)))
            refused(self, NoDeed, {}, kept.undo)

    def test_twins_and_those_under_other_tables_go_on_by_themselves(self):
        chance = random.Random(2424)
        for table in tables(10):
            kept = Kept(table, drawn_text(chance, table.signs(), 12))
            for _ in range(8):
                kept.change(*drawn_change(chance, table, kept.text()))
                ahead = all_told(kept), all_undone(kept)
                by = other_table(chance, table)
                twin, other = kept.twin(), kept.under(by)
                self.assertIsInstance(twin, Kept)
                self.assertIsInstance(other, Kept)
                self.assertEqual((all_told(twin), all_undone(twin)), ahead)
                self.assertEqual(all_told(other)[:2], (kept.text(), plain_cut(by.rows(), kept.text())))
                self.assertEqual([(text, row) for _, text, row in all_undone(other)],
                                 [(text, plain_cut(by.rows(), text)) for _, text, _ in ahead[1]])
                for one in (twin, other):
                    one.undo()
                    one.change(0, 0, table.signs())
                    one.change(0, len(one.text()), "")
                    self.assertEqual((all_told(kept), all_undone(kept)), ahead)
                ahead = all_told(twin), all_undone(twin), all_told(other), all_undone(other)
                kept.change(0, 0, table.signs())
                kept.undo()
                kept.undo()
                kept.change(0, 0, table.signs())
                self.assertEqual((all_told(twin), all_undone(twin), all_told(other), all_undone(other)), ahead)

    def test_310_signs(self):
        chance = random.Random(310)
        for table in tables(4):
            text = drawn_text(chance, table.signs(), 309)
            kept = Kept(table, text)
            kept.change(155, 0, text[0])
            kept.change(0, 310, "")
            kept.undo()
            self.assertEqual(kept.cutting(), plain_cut(table.rows(), text[:155] + text[0] + text[155:]))
            self.assertEqual(kept.piece_at(309), len(kept.cutting()) - 1)
            kept.undo()
            self.assertEqual((kept.text(), kept.cutting()), (text, plain_cut(table.rows(), text)))


class WhatIsRefused(unittest.TestCase):

    def setUp(self):
        self.kept = Kept(abc_table(), "ab")
        self.kept.change(2, 0, "c")
        self.ahead = all_told(self.kept), all_undone(self.kept)

    def no_change(self, error, values, *change):
        refused(self, error, values, self.kept.change, *change)
        self.assertEqual((all_told(self.kept), all_undone(self.kept)), self.ahead)

    def test_texts(self):
        for thing in no_texts():
            refused(self, NoSign, {"place": None}, Kept, abc_table(), thing)
        for text, place in (("d", 0), ("abd", 2), ("a\n", 1), ("A", 0)):
            refused(self, NoSign, {"place": place}, Kept, abc_table(), text)

    def test_places(self):
        for thing in no_places(3):
            self.no_change(NoPlace, {}, thing, 0, "")
            self.no_change(NoPlace, {}, thing, None, "d")

    def test_numbers_gone(self):
        for place in range(4):
            for thing in no_places(3 - place):
                self.no_change(NoPlace, {}, place, thing, "")
                self.no_change(NoPlace, {}, place, thing, None)

    def test_what_is_put(self):
        for thing in no_texts():
            self.no_change(NoSign, {"place": None}, 1, 1, thing)
        for text, place in (("d", 0), ("abd", 2), ("a\n", 1), ("A", 0)):
            self.no_change(NoSign, {"place": place}, 3, 0, text)

    def test_piece_at(self):
        for thing in no_places(2):
            refused(self, NoPlace, {}, self.kept.piece_at, thing)

    def test_other_signs(self):
        for signs in ("ab", "abcd", "abd", "c", "ABC", "ab "):
            refused(self, NoLead, {}, self.kept.under, Table(signs, []))
            self.assertEqual((all_told(self.kept), all_undone(self.kept)), self.ahead)
        for signs in ("abc", "cab", "bca", "cba"):
            self.assertEqual(self.kept.under(Table(signs, [])).cutting(), ["a", "b", "c"])


class NothingKept(unittest.TestCase):

    def test_told_lists_are_the_askers_own(self):
        kept = Kept(abc_table(), "abcab")
        for change in ((2, 1, ""), (0, 0, ""), (4, 0, "abc"), (0, 7, "")):
            patch = kept.change(*change)
            ahead = all_told(kept), all_undone(kept)
            patch[1].append("changed")
            patch[2].append("changed")
            told = kept.cutting()
            told.append("changed")
            told[0] = "changed"
            self.assertEqual((all_told(kept), all_undone(kept)), ahead)
        for _ in range(4):
            patch = kept.undo()
            ahead = all_told(kept), all_undone(kept)
            patch[1].append("changed")
            patch[2].append("changed")
            self.assertEqual((all_told(kept), all_undone(kept)), ahead)

    def test_told_lists_stay(self):
        kept = Kept(abc_table(), "abcab")
        row = kept.cutting()
        patch = kept.change(2, 1, "a")
        kept.change(0, 5, "c")
        back = kept.undo()
        kept.undo()
        kept.change(0, 2, "")
        self.assertEqual(row, ["ab", "c", "ab"])
        self.assertEqual(patch, (1, ["c"], ["a"]))
        self.assertEqual(back, (0, ["c"], ["ab", "a", "ab"]))

    def test_two_kept_texts_beside_one_another(self):
        table = abc_table()
        one, other = Kept(table, "abc"), Kept(table, "abc")
        one.change(0, 1, "")
        self.assertEqual((one.text(), other.text()), ("bc", "abc"))
        refused(self, NoDeed, {}, other.undo)
        other.change(3, 0, "abc")
        one.undo()
        self.assertEqual((one.cutting(), other.cutting()), (["ab", "c"], ["ab", "c", "ab", "c"]))


if __name__ == "__main__":
    unittest.main()
