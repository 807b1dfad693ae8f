"""Point 15, points 2 and 3 (b) of it."""

import itertools
import unittest

from joinranks.follows import Follows
from joinranks.judging import what_is_wrong
from joinranks.tables import Table
from tests.samples import done_one_by_one, some_texts, strange_things, tables


class Judged(unittest.TestCase):

    def setUp(self):
        # abc and abca are idle; b may not follow a, nor c follow b, nor a follow c.
        self.table = Table("abc", [("a", "b"), ("b", "c"), ("a", "bc"), ("abc", "a"), ("c", "a")])
        self.follows = Follows(self.table)

    def wrong(self, thing):
        told = what_is_wrong(self.follows, thing)
        if told is not None:
            self.assertIs(told.__class__, tuple)
        return told

    def test_nothing_is_wrong(self):
        for row in ([], ["a"], ["ab"], ["ab", "c"], ["a", "a", "ca"], ["bc", "bc"]):
            self.assertIsNone(self.wrong(row))

    def test_form(self):
        for thing in strange_things() + [("a", "a"), "ab"]:
            if thing.__class__ != list:
                self.assertEqual(self.wrong(thing), ("form", None))

    def test_piece(self):
        for thing in strange_things() + ["cc", "abcab"]:
            if thing.__class__ != str or thing not in self.table.pieces():
                self.assertEqual(self.wrong([thing]), ("piece", 0))
                self.assertEqual(self.wrong(["a", thing]), ("piece", 1))
                self.assertEqual(self.wrong(["a", "c", thing, "a", thing]), ("piece", 2))

    def test_alone(self):
        self.assertEqual(self.wrong(["abc"]), ("alone", 0))
        self.assertEqual(self.wrong(["a", "a", "abca", "abc"]), ("alone", 2))

    def test_border(self):
        self.assertEqual(self.wrong(["a", "b"]), ("border", 0))
        self.assertEqual(self.wrong(["a", "bc"]), ("border", 0))
        self.assertEqual(self.wrong(["a", "a", "b", "c"]), ("border", 1))
        self.assertEqual(self.wrong(["ab", "c", "c", "a"]), ("border", 2))

    def test_the_first_of_several(self):
        self.assertEqual(self.wrong(["abc", "a", "b", None]), ("piece", 3))
        self.assertEqual(self.wrong(["abc", None]), ("piece", 1))
        self.assertEqual(self.wrong(["a", "b", "cc"]), ("piece", 2))
        self.assertEqual(self.wrong(["a", "b", "abc"]), ("alone", 2))
        self.assertEqual(self.wrong(["a", "b", "b", "c"]), ("border", 0))

    def test_nothing_is_wrong_just_with_the_cuttings(self):
        for table in tables(20):
            follows = Follows(table)
            rows = [list(row) for many in range(3) for row in itertools.product(table.pieces(), repeat=many)]
            if len(table.pieces()) < 9:
                rows += [list(row) for row in itertools.product(table.pieces(), repeat=3)]
            for row in rows:
                cut = done_one_by_one(table.rows(), "".join(row))[1]
                self.assertEqual(what_is_wrong(follows, row) is None, row == cut, row)

    def test_each_piece_alone_and_each_two_neighbours(self):
        for table in tables(20):
            follows = Follows(table)
            for text in some_texts(table.signs()):
                row = done_one_by_one(table.rows(), text)[1]
                self.assertIsNone(what_is_wrong(follows, row))
                for number in range(len(row) - 1):
                    changed = row[:number] + [row[number] + row[number + 1]] + row[number + 2:]
                    self.assertIsNotNone(what_is_wrong(follows, changed))

    def test_the_thing_stays_as_it_is(self):
        for row in (["ab", "c"], ["a", "b"], ["abc"], ["a", None]):
            ahead = list(row)
            told = what_is_wrong(self.follows, row)
            self.assertEqual(row, ahead)
            row.append(None)
            row.pop()
            self.assertEqual(what_is_wrong(self.follows, row), told)


if __name__ == "__main__":
    unittest.main()
