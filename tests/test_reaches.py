"""Point 21."""

import random
import unittest

from joinranks.reaches import reach
from joinranks.tables import Table
from tests.samples import drawn_text, ends_of, plain_cut, some_texts, tables, texts


def left_edge_of(rows, piece):
    """The left edge of a piece, by the rows alone."""
    made = {left + right: left for left, right in rows}
    told = [piece]
    while told[-1] in made:
        told.append(made[told[-1]])
    return told


def greatest_sum(rows, last):
    """The greatest sum of the lists that end with the row of a rank, going through all of them."""
    left, right = rows[last]
    edge = left_edge_of(rows, right)
    return len(left) + max([0] + [greatest_sum(rows, rank) for rank in range(last)
                                  if rows[rank][0] in edge and stands(rows, rank)])


def stands(rows, rank):
    """Whether the row of a rank makes a piece that stands alone."""
    piece = "".join(rows[rank])
    return plain_cut(rows, piece) == [piece]


def chained(signs, many):
    """A table of rows (a, ..) that lead to one another in any choice: 2 ** many lists and more."""
    return Table("a" + signs, [("a", "a" * length + sign) for length in range(many) for sign in signs])


class Reach(unittest.TestCase):

    def test_by_hand(self):
        for signs, rows, told in (
                ("a", [], 0), ("abc", [], 0), ("ab", [("a", "b")], 1), ("a", [("a", "a")], 1),
                ("ab", [("a", "b"), ("b", "a")], 2), ("ab", [("b", "a"), ("a", "b")], 2),
                ("abc", [("a", "b"), ("c", "b")], 1), ("abc", [("a", "b"), ("ab", "c")], 2),
                ("abc", [("a", "b"), ("c", "ab")], 2), ("abc", [("c", "a"), ("ca", "b"), ("ca", "ca")], 4)):
            self.assertEqual(reach(Table(signs, rows)), told, (signs, rows))

    def test_rows_of_idle_pieces_do_not_count(self):
        self.assertEqual(reach(Table("abc", [("a", "b"), ("b", "c"), ("a", "bc")])), 1)
        self.assertEqual(reach(Table("abc", [("b", "c"), ("a", "bc")])), 2)

    def test_ranks_rise(self):
        self.assertEqual(reach(Table("abc", [("a", "b"), ("b", "c")])), 1)
        self.assertEqual(reach(Table("abc", [("b", "c"), ("a", "b")])), 2)

    def test_left_in_the_left_edge_behind_its_first(self):
        self.assertEqual(reach(Table("abcd", [("b", "c"), ("bc", "c"), ("bcc", "d"), ("a", "bc")])), 3)
        self.assertEqual(reach(Table("abcd", [("b", "d"), ("b", "c"), ("bc", "c"), ("a", "bcc"), ("d", "a")])), 4)
        self.assertEqual(reach(Table("abcd", [("b", "c"), ("bc", "c"), ("a", "bcc")])), 3)

    def test_all_lists_gone_through(self):
        for table in tables(40):
            rows = table.rows()
            if len(rows) <= 14:
                sums = [greatest_sum(rows, rank) for rank in range(len(rows)) if stands(rows, rank)]
                self.assertEqual(reach(table), max([0] + sums), rows)

    def test_very_many_lists(self):
        self.assertEqual(reach(chained("b", 15)), 15)
        self.assertEqual(reach(chained("bc", 12)), 23)
        self.assertEqual(reach(chained("bcd", 8)), 22)

    def test_pieces_that_end_so_far_ahead_stay(self):
        chance = random.Random(21)
        for table in tables(40):
            rows, far = table.rows(), reach(table)
            behind = texts(table.signs(), 2) + [drawn_text(chance, table.signs(), many) for many in (3, 5, 9, 17)]
            for text in some_texts(table.signs(), 20) + ["".join(table.pieces())]:
                row = plain_cut(rows, text)
                kept = [piece for piece, end in zip(row, ends_of(row)) if end + far <= len(text)]
                for more in behind:
                    self.assertEqual(plain_cut(rows, text + more)[:len(kept)], kept)


if __name__ == "__main__":
    unittest.main()
