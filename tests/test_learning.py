"""Point 27, points 2 and 3 (f) of it; what it refuses stands with point 25."""

import random
import unittest

from joinranks.learning import learnt
from joinranks.tables import Table
from tests.plain_counting import drawn_counted, plain_learnt
from tests.samples import abc_table, drawn_text, tables

GREAT = 10 ** 60 - 1


class ByHand(unittest.TestCase):

    def told(self, table, counted, most, least):
        told = learnt(table, counted, most, least)
        self.assertEqual([told.__class__, len(told), told[1].__class__], [tuple, 2, list])
        self.assertIsInstance(told[0], Table)
        self.assertEqual(told[0].signs(), table.signs())
        return told[0].rows(), told[1]

    def test_some_rows(self):
        counted = [("abab", 3), ("abc", 2)]
        self.assertEqual(self.told(Table("abc", []), counted, 9, 1), (
            [("a", "b"), ("ab", "ab"), ("ab", "c")], [(0, 1, 8, 8), (3, 3, 3, 3), (3, 2, 2, 2)]))
        self.assertEqual(self.told(Table("abc", []), counted, 2, 1),
                         ([("a", "b"), ("ab", "ab")], [(0, 1, 8, 8), (3, 3, 3, 3)]))
        self.assertEqual(self.told(Table("abc", []), counted, 9, 3),
                         ([("a", "b"), ("ab", "ab")], [(0, 1, 8, 8), (3, 3, 3, 3)]))
        self.assertEqual(self.told(Table("abc", []), counted, 9, 4), ([("a", "b")], [(0, 1, 8, 8)]))
        self.assertEqual(self.told(Table("abc", []), counted, 9, 9), ([], []))

    def test_three_alike_in_a_row(self):
        self.assertEqual(self.told(Table("x", []), [("xxx", 2)], 9, 1),
                         ([("x", "x"), ("xx", "x")], [(0, 0, 4, 2), (1, 0, 2, 2)]))
        self.assertEqual(self.told(Table("x", []), [("xxxxx", 1)], 1, 1), ([("x", "x")], [(0, 0, 4, 2)]))

    def test_behind_the_rows_that_are_there(self):
        self.assertEqual(self.told(Table("abc", [("b", "c")]), [("abc", 1), ("ab", 1)], 9, 1),
                         ([("b", "c"), ("a", "b"), ("a", "bc")], [(0, 1, 1, 1), (0, 3, 1, 1)]))

    def test_most_0(self):
        for table in tables(3):
            self.assertEqual(self.told(table, [(table.signs() * 2, 1)], 0, 1), (table.rows(), []))

    def test_no_texts(self):
        for table in tables(3):
            self.assertEqual(self.told(table, [], 9, 1), (table.rows(), []))
            self.assertEqual(self.told(table, [("", 5)], 9, 1), (table.rows(), []))

    def test_great_numbers(self):
        self.assertEqual(self.told(Table("ab", []), [("abb", GREAT), ("ab", GREAT)], GREAT, GREAT), (
            [("a", "b"), ("ab", "b")], [(0, 1, 2 * GREAT, 2 * GREAT), (2, 1, GREAT, GREAT)]))
        self.assertEqual(self.told(Table("ab", []), [("ab", GREAT)], GREAT, GREAT)[0], [("a", "b")])
        self.assertEqual(self.told(Table("ab", []), [("ab", GREAT - 1)], GREAT, GREAT)[0], [])

    def test_at_most_24_rows(self):
        chance = random.Random(27)
        text = drawn_text(chance, "abcdefghijkl", 310)
        rows, log = self.told(Table("abcdefghijkl", []), [(text, 1)], GREAT, 1)
        self.assertEqual((len(rows), len(log)), (24, 24))
        full = Table("abcdefghijkl", rows)
        self.assertEqual(self.told(full, [(text, 1)], GREAT, 1), (rows, []))
        self.assertEqual(self.told(Table("abcdefghijkl", rows[:23]), [(text, 1)], GREAT, 1), (rows, log[23:]))

    def test_at_most_16_signs(self):
        rows, log = self.told(Table("a", []), [("a" * 64, 1)], 24, 1)
        self.assertEqual(rows, [("a" * many, "a" * many) for many in (1, 2, 4, 8)])
        self.assertEqual(log, [(0, 0, 63, 32), (1, 1, 31, 16), (2, 2, 15, 8), (3, 3, 7, 4)])


class Sought(unittest.TestCase):

    def test_counted_anew_each_time(self):
        chance = random.Random(2727)
        for table in tables():
            for many in (1, 4):
                counted = drawn_counted(chance, table, many)
                for most, least in ((24, 1), (3, 2), (GREAT, 5)):
                    told, log = learnt(table, counted, most, least)
                    self.assertEqual((told.rows(), log), plain_learnt(table, counted, most, least))
                    self.assertEqual(told.signs(), table.signs())

    def test_some_rows_and_then_more(self):
        chance = random.Random(272727)
        for table in tables(10):
            counted = drawn_counted(chance, table, 4)
            whole, log = learnt(table, counted, 24, 1)
            for many in range(len(log) + 1):
                some, one = learnt(table, counted, many, 1)
                more, other = learnt(some, counted, 24 - many, 1)
                self.assertEqual((more.rows(), one + other), (whole.rows(), log))


class NothingKept(unittest.TestCase):

    def test_the_table_handed_in_stays(self):
        table = Table("abc", [("b", "c")])
        told = learnt(table, [("abcabc", 1)], 9, 1)
        self.assertGreater(len(told[0].rows()), 1)
        self.assertEqual(table.rows(), [("b", "c")])

    def test_told_lists_are_the_askers_own(self):
        for counted, most in (([("abcabc", 1)], 9), ([("abcabc", 1)], 0), ([], 9)):
            table, log = learnt(abc_table(), counted, most, 1)
            rows, ahead = table.rows(), list(log)
            log.append("changed")
            self.assertEqual(table.rows(), rows)
            self.assertEqual(learnt(abc_table(), counted, most, 1)[1], ahead)
            counted.clear()
            self.assertEqual(table.rows(), rows)
            self.assertEqual(log[:-1], ahead)

    def test_tuples_in_the_log(self):
        log = learnt(Table("ab", []), [("abab", 1)], 9, 1)[1]
        self.assertEqual([(entry.__class__, len(entry)) for entry in log], [(tuple, 4), (tuple, 4)])


if __name__ == "__main__":
    unittest.main()
