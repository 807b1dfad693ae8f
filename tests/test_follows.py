"""Point 14, and point 2 of it."""

import copy
import unittest

from joinranks.errors import NoPiece
from joinranks.follows import Follows
from joinranks.tables import Table
from tests.samples import done_one_by_one, refused, strange_things, tables


def all_told(follows):
    """All that follows tell, in lists of the test's own."""
    pieces = follows.table().pieces()
    return copy.deepcopy((
        follows.alone(), [follows.after(piece) for piece in pieces], [follows.ahead(piece) for piece in pieces],
        [follows.may(left, right) for left in pieces for right in pieces]))


class Told(unittest.TestCase):

    def test_by_hand(self):
        table = Table("abc", [("a", "b"), ("b", "c"), ("a", "bc"), ("c", "a")])
        follows = Follows(table)
        self.assertIs(follows.table(), table)
        self.assertEqual(follows.alone(), ["a", "b", "c", "ab", "bc", "ca"])
        self.assertEqual(follows.after("a"), ["a", "c", "ab", "ca"])
        self.assertEqual(follows.ahead("a"), ["a", "b", "ab", "bc", "ca"])
        self.assertEqual(follows.after("abc"), [])
        self.assertEqual(follows.ahead("abc"), [])
        self.assertIs(follows.may("a", "c"), True)
        self.assertIs(follows.may("c", "a"), False)
        self.assertIs(follows.may("a", "a"), True)
        self.assertIs(follows.may("abc", "a"), False)
        self.assertIs(follows.may("a", "abc"), False)

    def test_a_table_without_rows(self):
        follows = Follows(Table("ba", []))
        self.assertEqual(all_told(follows), (["b", "a"], [["b", "a"]] * 2, [["b", "a"]] * 2, [True] * 4))

    def test_sought_by_the_plain_sweeping(self):
        for table in tables(20):
            pieces, rows = table.pieces(), table.rows()
            may = {(left, right): done_one_by_one(rows, left + right)[1] == [left, right]
                   for left in pieces for right in pieces}
            alone = [piece for piece in pieces if done_one_by_one(rows, piece)[1] == [piece]]
            self.assertEqual(all_told(Follows(table)), (
                alone, [[right for right in pieces if may[left, right]] for left in pieces],
                [[left for left in pieces if may[left, right]] for right in pieces],
                [may[left, right] for left in pieces for right in pieces]))

    def test_truths_are_truths(self):
        follows = Follows(Table("ab", [("a", "b")]))
        self.assertEqual({follows.may(left, right).__class__ for left in "ab" for right in "ab"}, {bool})

    def test_what_is_no_piece(self):
        for table in tables(1):
            follows = Follows(table)
            right = table.pieces()[-1]
            for thing in strange_things() + ["\n", "a" * 17]:
                if thing.__class__ != str or thing not in table.pieces():
                    refused(self, NoPiece, {"place": None}, follows.after, thing)
                    refused(self, NoPiece, {"place": None}, follows.ahead, thing)
                    refused(self, NoPiece, {"place": None}, follows.may, thing, right)
                    refused(self, NoPiece, {"place": None}, follows.may, right, thing)
                    refused(self, NoPiece, {"place": None}, follows.may, thing, thing)


class NothingKept(unittest.TestCase):

    def test_told_lists_are_the_askers_own(self):
        follows = Follows(Table("abc", [("a", "b"), ("b", "c"), ("a", "bc")]))
        ahead = all_told(follows)
        for told in (follows.alone(), follows.after("a"), follows.ahead("a"), follows.after("abc"),
                     follows.ahead("abc")):
            told.append("abc")
            told[0] = "changed"
            self.assertEqual(all_told(follows), ahead)
            told.clear()
            self.assertEqual(all_told(follows), ahead)

    def test_a_told_list_stays(self):
        follows = Follows(Table("ab", [("a", "b")]))
        for ask in (lambda: follows.after("a"), lambda: follows.ahead("a"), follows.alone):
            told = ask()
            ahead = list(told)
            ask().append("more")
            self.assertEqual(told, ahead)


if __name__ == "__main__":
    unittest.main()
