"""Points 11, 12 and 13, and point 2 of them."""

import unittest

from joinranks.errors import NoPiece, NoSign
from joinranks.meets import idle_pieces, left_edge, may_follow, meets, right_edge, stands_alone
from joinranks.tables import Table
from tests.samples import done_one_by_one, refused, some_texts, strange_things, tables


def cut(table, text):
    """The cutting of a text, by joinings done one by one."""
    return done_one_by_one(table.rows(), text)[1]


def plain_meets(table, one, other):
    """The rank of the joining over the border of two texts, by joinings done one by one."""
    ranks = [rank for rank, place in done_one_by_one(table.rows(), one + other)[0] if place == len(one)]
    return ranks[0] if ranks else None


def no_pieces(table):
    """Things of any kind that are no pieces of a table."""
    things = strange_things() + ["\n", "a" * 17]
    return [thing for thing in things if thing.__class__ != str or thing not in table.pieces()]


class Meets(unittest.TestCase):

    def test_by_hand(self):
        table = Table("abc", [("b", "c"), ("a", "b"), ("ab", "c"), ("c", "c")])
        self.assertEqual(meets(table, "a", "b"), 1)
        self.assertEqual(meets(table, "b", "c"), 0)
        self.assertEqual(meets(table, "ab", "c"), 0)
        self.assertIsNone(meets(table, "a", "bc"))
        self.assertIsNone(meets(table, "c", "b"))
        self.assertEqual(meets(table, "bcc", "c"), 3)
        self.assertIsNone(meets(table, "bccc", "c"))

    def test_one_of_both_without_signs(self):
        for table in tables():
            for text in some_texts(table.signs()):
                self.assertIsNone(meets(table, "", text))
                self.assertIsNone(meets(table, text, ""))

    def test_done_one_by_one(self):
        for table in tables():
            for whole in some_texts(table.signs(), 40):
                for place in range(len(whole) + 1):
                    one, other = whole[:place], whole[place:]
                    told = meets(table, one, other)
                    self.assertEqual(told, plain_meets(table, one, other))
                    self.assertEqual(told is None, cut(table, whole) == cut(table, one) + cut(table, other))

    def test_the_last_and_the_first_piece_tell_it(self):
        for table in tables(10):
            for whole in some_texts(table.signs(), 40):
                for place in range(1, len(whole)):
                    one, other = whole[:place], whole[place:]
                    last, first = cut(table, one)[-1], cut(table, other)[0]
                    self.assertEqual(meets(table, one, other), meets(table, last, first))

    def test_what_is_no_text_of_the_table(self):
        table = Table("ab", [("a", "b")])
        for thing in strange_things():
            if thing.__class__ != str:
                refused(self, NoSign, {"place": None}, meets, table, thing, "a")
                refused(self, NoSign, {"place": None}, meets, table, "a", thing)
                refused(self, NoSign, {"place": None}, meets, table, thing, "ac")
                refused(self, NoSign, {"place": 1}, meets, table, "ac", thing)
        refused(self, NoSign, {"place": 1}, meets, table, "ac", "ab")
        refused(self, NoSign, {"place": 2}, meets, table, "ab", "abc")
        refused(self, NoSign, {"place": 0}, meets, table, "", "c")
        refused(self, NoSign, {"place": 3}, meets, table, "aaac", "c")


class Pieces(unittest.TestCase):

    def test_by_hand(self):
        table = Table("abc", [("a", "b"), ("b", "c"), ("a", "bc"), ("abc", "a"), ("c", "a")])
        self.assertEqual(idle_pieces(table), ["abc", "abca"])
        self.assertIs(stands_alone(table, "a"), True)
        self.assertIs(stands_alone(table, "bc"), True)
        self.assertIs(stands_alone(table, "abc"), False)
        self.assertIs(may_follow(table, "ab", "c"), True)
        self.assertIs(may_follow(table, "a", "bc"), False)
        self.assertIs(may_follow(table, "c", "a"), False)
        self.assertIs(may_follow(table, "a", "c"), True)
        self.assertIs(may_follow(table, "a", "a"), True)
        self.assertIs(may_follow(table, "c", "abc"), False)
        self.assertIs(may_follow(table, "abc", "c"), False)

    def test_without_idle_pieces(self):
        self.assertEqual(idle_pieces(Table("ab", [])), [])
        self.assertEqual(idle_pieces(Table("ab", [("a", "b"), ("ab", "ab")])), [])

    def test_sought_by_the_plain_sweeping(self):
        idle = 0
        for table in tables():
            alone = [piece for piece in table.pieces() if cut(table, piece) == [piece]]
            self.assertEqual(idle_pieces(table), [piece for piece in table.pieces() if piece not in alone])
            idle += len(idle_pieces(table))
            for piece in table.pieces():
                self.assertIs(stands_alone(table, piece), piece in alone)
        self.assertGreater(idle, 20)

    def test_who_may_follow_whom(self):
        for table in tables(12):
            for left in table.pieces():
                for right in table.pieces():
                    may = cut(table, left + right) == [left, right]
                    self.assertIs(may_follow(table, left, right), may)
                    if may:
                        self.assertTrue(stands_alone(table, left) and stands_alone(table, right))

    def test_idle_pieces_are_in_no_cutting(self):
        for table in tables(12):
            idle = idle_pieces(table)
            for text in some_texts(table.signs()):
                self.assertEqual([piece for piece in cut(table, text) if piece in idle], [])

    def test_parts_of_what_stands_alone_stand_alone(self):
        for table in tables():
            for piece in table.pieces():
                if stands_alone(table, piece):
                    for part in table.parts(piece) or ():
                        self.assertTrue(stands_alone(table, part))

    def test_what_is_no_piece(self):
        for table in tables(1):
            for thing in no_pieces(table):
                for call in (stands_alone, right_edge, left_edge):
                    refused(self, NoPiece, {"place": None}, call, table, thing)
                right = table.pieces()[-1]
                refused(self, NoPiece, {"place": None}, may_follow, table, thing, right)
                refused(self, NoPiece, {"place": None}, may_follow, table, right, thing)
                refused(self, NoPiece, {"place": None}, may_follow, table, thing, thing)


class Edges(unittest.TestCase):

    def test_by_hand(self):
        table = Table("abc", [("a", "b"), ("ab", "c"), ("c", "abc"), ("cabc", "ab")])
        self.assertEqual(right_edge(table, "a"), ["a"])
        self.assertEqual(left_edge(table, "a"), ["a"])
        self.assertEqual(right_edge(table, "abc"), ["abc", "c"])
        self.assertEqual(left_edge(table, "abc"), ["abc", "ab", "a"])
        self.assertEqual(right_edge(table, "cabcab"), ["cabcab", "ab", "b"])
        self.assertEqual(left_edge(table, "cabcab"), ["cabcab", "cabc", "c"])
        self.assertEqual(right_edge(table, "cabc"), ["cabc", "abc", "c"])

    def test_part_by_part(self):
        for table in tables():
            for piece in table.pieces():
                for edge, side in ((left_edge(table, piece), 0), (right_edge(table, piece), 1)):
                    self.assertEqual(edge[0], piece)
                    for one, other in zip(edge, edge[1:]):
                        self.assertEqual(table.parts(one)[side], other)
                    self.assertEqual(len(edge[-1]), 1)

    def test_edges_tell_the_rank_over_the_border(self):
        for table in tables(12):
            alone = [piece for piece in table.pieces() if stands_alone(table, piece)]
            for one in alone:
                for other in alone:
                    self.assertEqual(self.least_by_edges(table, one, other), meets(table, one, other))

    def least_by_edges(self, table, one, other):
        """The least rank that point 13 tells of."""
        rights, lefts = right_edge(table, one), left_edge(table, other)
        made_by = {left + right: rank for rank, (left, right) in enumerate(table.rows())}
        ranks = [table.rank(x, y) for k, x in enumerate(rights) for j, y in enumerate(lefts)
                 if table.rank(x, y) is not None
                 and (k == 0 or table.rank(x, y) < made_by[rights[k - 1]])
                 and (j == 0 or table.rank(x, y) <= made_by[lefts[j - 1]])]
        return min(ranks) if ranks else None

    def test_told_lists_are_the_askers_own(self):
        table = Table("abc", [("a", "b"), ("b", "c"), ("a", "bc")])
        for call, told in ((right_edge, ("abc",)), (left_edge, ("abc",)), (idle_pieces, ())):
            ahead = list(call(table, *told))
            call(table, *told).clear()
            self.assertEqual(call(table, *told), ahead)
        self.assertEqual(table.pieces(), ["a", "b", "c", "ab", "bc", "abc"])


if __name__ == "__main__":
    unittest.main()
