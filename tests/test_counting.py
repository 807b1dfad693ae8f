"""Points 25 and 26, and point 2 of them."""

import random
import unittest

from joinranks.counting import beside, best_pair
from joinranks.errors import NoCount, NoSign
from joinranks.learning import learnt
from joinranks.tables import Table
from tests.plain_counting import drawn_counted, plain_beside, plain_best
from tests.samples import EqualToAll, abc_table, no_manys, no_texts, refused, strange_things, tables

GREAT = 10 ** 60 - 1
FULL = Table("abcdef", [(left, right) for left in "abcdef" for right in "abcd"])

# All that looks at counted texts, also where nothing is to be joined.
ASKED = (beside,
         lambda table, counted: best_pair(table, counted, 1), lambda table, counted: best_pair(table, counted, GREAT),
         lambda table, counted: learnt(table, counted, 3, 1), lambda table, counted: learnt(table, counted, 0, 1))


class Beside(unittest.TestCase):

    def test_by_hand(self):
        # Cut to ab c c, and to c ab ab.
        table = Table("abc", [("a", "b")])
        self.assertEqual(beside(table, [("abcc", 1), ("cabab", 1)]), [(2, 2, 1), (2, 3, 1), (3, 2, 1), (3, 3, 1)])
        self.assertEqual(beside(table, [("abcc", 2), ("cabab", 5)]), [(2, 2, 2), (2, 3, 5), (3, 2, 2), (3, 3, 5)])
        self.assertEqual(beside(table, [("abcc", 2), ("bcc", 5)]), [(1, 2, 5), (2, 2, 7), (3, 2, 2)])

    def test_nothing_beside_one_another(self):
        table = Table("abc", [("a", "b")])
        for counted in ([], [("", 3)], [("a", 1), ("ab", 7), ("", GREAT)]):
            self.assertEqual(beside(table, counted), [])

    def test_three_alike_in_a_row(self):
        self.assertEqual(beside(Table("x", []), [("xxx", 1)]), [(0, 0, 2)])
        self.assertEqual(beside(Table("x", []), [("xxx", 5), ("xx", 1)]), [(0, 0, 11)])
        self.assertEqual(beside(Table("x", [("x", "x")]), [("x" * 7, 1)]), [(1, 0, 1), (1, 1, 2)])

    def test_the_same_text_more_often(self):
        table = Table("ab", [])
        self.assertEqual(beside(table, [("ab", 2), ("ba", 1), ("ab", 3)]), [(0, 1, 5), (1, 0, 1)])

    def test_great_numbers(self):
        table = Table("ab", [])
        self.assertEqual(beside(table, [("aab", GREAT), ("aa", GREAT)]), [(0, 0, 2 * GREAT), (0, 1, GREAT)])

    def test_counted_plainly(self):
        chance = random.Random(25)
        for table in tables(40):
            for many in (1, 3, 8):
                counted = drawn_counted(chance, table, many)
                self.assertEqual(beside(table, counted), plain_beside(table, counted))


class BestPair(unittest.TestCase):

    def test_by_hand(self):
        table = Table("abc", [])
        self.assertEqual(best_pair(table, [("abab", 1)], 1), (0, 1, 2))
        self.assertEqual(best_pair(table, [("abab", 1), ("ba", 2)], 1), (1, 0, 3))
        self.assertEqual(best_pair(table, [("cc", 1)], 1), (2, 2, 1))

    def test_of_several_the_least_numbers(self):
        self.assertEqual(best_pair(Table("abc", []), [("cb", 2), ("ca", 2), ("bc", 2), ("ba", 2)], 1), (1, 0, 2))
        self.assertEqual(best_pair(Table("cba", []), [("cb", 2), ("ca", 2), ("bc", 2), ("ba", 2)], 1), (0, 1, 2))
        self.assertEqual(best_pair(Table("abc", []), [("ac", 4), ("ab", 4), ("bb", 5)], 1), (1, 1, 5))

    def test_at_least_so_often(self):
        table = Table("abc", [])
        counted = [("ab", 4), ("bc", 3)]
        self.assertEqual([best_pair(table, counted, least) for least in (1, 3, 4, 5, GREAT)],
                         [(0, 1, 4), (0, 1, 4), (0, 1, 4), None, None])
        self.assertEqual(best_pair(table, [("ab", GREAT)], GREAT), (0, 1, GREAT))
        self.assertIsNone(best_pair(table, [("ab", GREAT - 1)], GREAT))

    def test_none(self):
        for counted in ([], [("", 1)], [("a", 9)]):
            self.assertIsNone(best_pair(Table("abc", []), counted, 1))

    def test_a_joined_text_that_is_a_piece_already(self):
        # abc is cut to ab c, and their joined text is an idle piece.
        self.assertEqual(beside(abc_table(), [("abc", 9), ("cc", 1)]), [(2, 2, 1), (3, 2, 9)])
        self.assertEqual(best_pair(abc_table(), [("abc", 9), ("cc", 1)], 1), (2, 2, 1))
        self.assertIsNone(best_pair(abc_table(), [("abc", 9), ("cc", 1)], 2))

    def test_a_joined_text_of_more_than_16_signs(self):
        table = Table("ab", [("a", "a"), ("aa", "aa"), ("aaaa", "aaaa"), ("aaaa", "aa"), ("aaaaaa", "a")])
        eight, seven = "a" * 8, "a" * 7
        self.assertEqual(best_pair(table, [(eight + eight, 3)], 1), (4, 4, 3))
        self.assertEqual(best_pair(table, [(eight + seven, 1)], 1), (4, 6, 1))
        table = Table("ab", table.rows() + [(eight, eight)])
        self.assertEqual(beside(table, [(eight * 2 + "b", 9), ("ba", 1)]), [(1, 0, 1), (7, 1, 9)])
        self.assertEqual(best_pair(table, [(eight * 2 + "b", 9), ("ba", 1)], 1), (1, 0, 1))
        table = Table("ab", [("a", "a"), ("aa", "aa"), ("aaaa", "aaaa"), (eight, "b")])
        self.assertEqual(beside(table, [(eight + "b" + eight, 5)]), [(5, 4, 5)])
        self.assertIsNone(best_pair(table, [(eight + "b" + eight, 5)], 1))

    def test_24_rows(self):
        counted = [("ef", 9), ("fe", 3)]
        self.assertIsNone(best_pair(FULL, counted, 1))
        self.assertEqual(best_pair(Table("abcdef", FULL.rows()[:23]), counted, 1), (4, 5, 9))

    def test_counted_plainly(self):
        chance = random.Random(26)
        for table in tables(40):
            for many in (1, 3, 8):
                counted = drawn_counted(chance, table, many)
                for least in (1, 3, 10):
                    self.assertEqual(best_pair(table, counted, least), plain_best(table, counted, least))


class WhatIsRefused(unittest.TestCase):

    def refused_by_all(self, error, values, counted):
        for call in ASKED:
            for table in (Table("abc", []), abc_table(), Table("bca", [])):
                refused(self, error, values, call, table, counted)

    def test_no_list(self):
        for thing in strange_things() + [(("a", 1),)]:
            if thing.__class__ != list:
                self.refused_by_all(NoCount, {"number": None}, thing)

    def test_no_tuple_of_two(self):
        for thing in strange_things() + [["a", 1], ("a", 1, 1), "a1", ("a",), ("d",), ()]:
            if thing.__class__ != tuple or len(thing) != 2:
                self.refused_by_all(NoCount, {"number": 0}, [thing])
                self.refused_by_all(NoCount, {"number": 2}, [("a", 1), ("b", 1), thing, None])

    def test_no_text(self):
        for thing in no_texts():
            self.refused_by_all(NoSign, {"place": None}, [(thing, 1)])
            self.refused_by_all(NoSign, {"place": None}, [("a", 1), (thing, 1)])
        for text, place in (("d", 0), ("abd", 2), ("a\n", 1), ("A", 0)):
            self.refused_by_all(NoSign, {"place": place}, [("abc", 1), (text, 1)])

    def test_also_of_a_table_with_24_rows(self):
        for call in ASKED:
            refused(self, NoSign, {"place": 2}, call, FULL, [("efg", 1)])
            refused(self, NoCount, {"number": 1}, call, FULL, [("ef", 1), ("ef", 0)])
            refused(self, NoCount, {"number": None}, call, FULL, None)

    def test_no_many(self):
        for thing in no_manys():
            self.refused_by_all(NoCount, {"number": 0}, [("abc", thing)])
            self.refused_by_all(NoCount, {"number": 0}, [("", thing)])
            self.refused_by_all(NoCount, {"number": 1}, [("abc", 1), ("c", thing), ("a", 0)])

    def test_the_text_goes_ahead_of_its_many(self):
        for thing in no_manys():
            self.refused_by_all(NoSign, {"place": 1}, [("a", 1), ("ad", thing)])
            self.refused_by_all(NoSign, {"place": None}, [(None, thing)])

    def test_one_by_one(self):
        self.refused_by_all(NoCount, {"number": 0}, [("a", 0), ("d", 1)])
        self.refused_by_all(NoCount, {"number": 0}, [None, ("d", 1)])
        self.refused_by_all(NoSign, {"place": 0}, [("d", 1), ("a", 0), None])
        self.refused_by_all(NoCount, {"number": 1}, [("a", 1), ("a",), ("d", 1)])
        self.refused_by_all(NoCount, {"number": 0}, [EqualToAll()])


class NothingKept(unittest.TestCase):

    def test_what_is_handed_in_stays(self):
        counted = [("abab", 2), ("", 1), ("abab", 1)]
        for call in ASKED:
            call(abc_table(), counted)
            self.assertEqual(counted, [("abab", 2), ("", 1), ("abab", 1)])

    def test_told_lists_are_the_askers_own(self):
        counted = [("abcab", 2)]
        told = beside(abc_table(), counted)
        self.assertEqual([told.__class__] + [one.__class__ for one in told], [list, tuple, tuple])
        counted.clear()
        self.assertEqual(told, [(2, 3, 2), (3, 2, 2)])
        told.append("changed")
        self.assertEqual(beside(abc_table(), [("abcab", 2)]), [(2, 3, 2), (3, 2, 2)])
        self.assertIs(best_pair(Table("ab", []), [("ab", 1)], 1).__class__, tuple)


if __name__ == "__main__":
    unittest.main()
