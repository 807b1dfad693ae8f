"""Point 28, points 2 and 3 (f) of it."""

import random
import unittest

from joinranks.counting import beside
from joinranks.errors import NoCount, NoDeed, NoSign
from joinranks.learner import Learner
from joinranks.learning import learnt
from joinranks.tables import Table
from tests.plain_counting import drawn_counted, plain_beside, plain_pieces, plain_step
from tests.samples import abc_table, drawn_text, no_manys, no_texts, refused, tables

GREAT = 10 ** 60 - 1


def all_told(learner):
    """All that a learner tells, the table by its rows."""
    return learner.counted(), learner.beside(), learner.table().rows(), learner.many_pieces()


def filled(table, counted):
    """A learner with counted texts."""
    learner = Learner(table)
    for text, many in counted:
        learner.put(text, many)
    return learner


class ByHand(unittest.TestCase):

    def test_no_texts_at_first(self):
        for table in tables(3):
            learner = Learner(table)
            self.assertEqual(all_told(learner), ([], [], table.rows(), 0))
            self.assertIsNone(learner.step(1))
            refused(self, NoDeed, {}, learner.step_back)

    def test_put_and_taken(self):
        learner = Learner(abc_table())
        self.assertIsNone(learner.put("abc", 2))
        self.assertIsNone(learner.put("cc", 1))
        self.assertIsNone(learner.put("abc", 3))
        self.assertEqual(all_told(learner)[::3], ([("abc", 5), ("cc", 1)], 12))
        self.assertEqual(learner.beside(), [(2, 2, 1), (3, 2, 5)])
        self.assertIsNone(learner.take("abc", 4))
        self.assertEqual(all_told(learner)[::3], ([("abc", 1), ("cc", 1)], 4))
        learner.take("cc", 1)
        self.assertEqual(all_told(learner)[::3], ([("abc", 1)], 2))
        learner.take("abc", 1)
        self.assertEqual(all_told(learner), ([], [], abc_table().rows(), 0))

    def test_in_the_order_in_which_they_came(self):
        learner = filled(Table("abc", []), [("c", 1), ("a", 1), ("b", 1), ("c", 1)])
        self.assertEqual(learner.counted(), [("c", 2), ("a", 1), ("b", 1)])
        learner.take("c", 1)
        learner.put("c", 1)
        self.assertEqual(learner.counted(), [("c", 2), ("a", 1), ("b", 1)])
        learner.take("c", 2)
        learner.put("c", 7)
        self.assertEqual(learner.counted(), [("a", 1), ("b", 1), ("c", 7)])

    def test_the_order_stays_by_steps(self):
        learner = filled(Table("abc", []), [("cab", 1), ("ab", 1), ("c", 1)])
        self.assertEqual(learner.step(1), (0, 1, 2, 2))
        self.assertEqual(learner.counted(), [("cab", 1), ("ab", 1), ("c", 1)])
        learner.step_back()
        self.assertEqual(learner.counted(), [("cab", 1), ("ab", 1), ("c", 1)])

    def test_the_text_without_signs(self):
        learner = filled(Table("ab", []), [("", 3), ("ab", 1)])
        self.assertEqual(all_told(learner), ([("", 3), ("ab", 1)], [(0, 1, 1)], [], 2))
        learner.take("", 3)
        self.assertEqual(learner.counted(), [("ab", 1)])

    def test_steps(self):
        learner = filled(Table("abc", []), [("abab", 3), ("abc", 2)])
        self.assertEqual(learner.step(1), (0, 1, 8, 8))
        self.assertEqual(all_told(learner), ([("abab", 3), ("abc", 2)], [(3, 2, 2), (3, 3, 3)], [("a", "b")], 10))
        self.assertIsNone(learner.step(4))
        self.assertEqual(learner.step(3), (3, 3, 3, 3))
        self.assertIsNone(learner.step(3))
        self.assertEqual(learner.step(2), (3, 2, 2, 2))
        self.assertIsNone(learner.step(1))
        self.assertEqual(all_told(learner)[1:], ([], [("a", "b"), ("ab", "ab"), ("ab", "c")], 5))

    def test_steps_back(self):
        learner = filled(Table("abc", [("c", "c")]), [("abab", 3), ("abc", 2)])
        ahead = [all_told(learner)]
        for _ in range(3):
            self.assertIsNotNone(learner.step(1))
            ahead.append(all_told(learner))
        self.assertIsNone(learner.step(1))
        self.assertEqual(all_told(learner), ahead.pop())
        while ahead:
            self.assertIsNone(learner.step_back())
            self.assertEqual(all_told(learner), ahead.pop())
        refused(self, NoDeed, {}, learner.step_back)
        self.assertEqual(learner.table().rows(), [("c", "c")])

    def test_a_step_that_was_none_is_not_taken_back(self):
        learner = filled(Table("ab", []), [("ab", 2)])
        learner.step(2)
        self.assertIsNone(learner.step(1))
        learner.step_back()
        self.assertEqual(learner.table().rows(), [])
        self.assertIsNone(learner.step(3))
        refused(self, NoDeed, {}, learner.step_back)

    def test_texts_that_come_and_go_between_steps(self):
        learner = filled(Table("abc", []), [("ab", 2)])
        learner.step(1)
        learner.put("cab", 5)
        learner.take("ab", 2)
        self.assertEqual(all_told(learner), ([("cab", 5)], [(2, 3, 5)], [("a", "b")], 10))
        self.assertEqual(learner.step(1), (2, 3, 5, 5))
        learner.put("abcab", 1)
        self.assertEqual(learner.beside(), [(3, 4, 1)])
        learner.step_back()
        learner.step_back()
        self.assertEqual(learner.beside(), [(0, 1, 7), (1, 2, 1), (2, 0, 6)])
        self.assertEqual(learner.many_pieces(), 20)

    def test_great_numbers(self):
        learner = filled(Table("ab", []), [("aab", GREAT), ("b", 1), ("aab", GREAT)])
        self.assertEqual(all_told(learner), (
            [("aab", 2 * GREAT), ("b", 1)], [(0, 0, 2 * GREAT), (0, 1, 2 * GREAT)], [], 6 * GREAT + 1))
        self.assertEqual(learner.step(GREAT), (0, 0, 2 * GREAT, 2 * GREAT))
        learner.take("aab", GREAT)
        self.assertEqual(learner.many_pieces(), 2 * GREAT + 1)
        self.assertEqual(learner.step(GREAT), (2, 1, GREAT, GREAT))

    def test_24_rows(self):
        text = drawn_text(random.Random(28), "abcdefghijkl", 310)
        learner = filled(Table("abcdefghijkl", []), [(text, 1)])
        log = [learner.step(1) for _ in range(25)]
        self.assertEqual([entry is None for entry in log], [False] * 24 + [True])
        whole = learnt(Table("abcdefghijkl", []), [(text, 1)], 30, 1)
        self.assertEqual((learner.table().rows(), log[:24]), (whole[0].rows(), whole[1]))
        learner.step_back()
        self.assertEqual(learner.step(1), log[23])

    def test_a_table_that_was_told_stays(self):
        first = Table("ab", [])
        learner = filled(first, [("abab", 1)])
        self.assertIs(learner.table(), first)
        learner.step(1)
        second = learner.table()
        learner.step(1)
        third = learner.table()
        learner.step_back()
        learner.step_back()
        learner.take("abab", 1)
        learner.put("bb", 1)
        learner.step(1)
        self.assertEqual([table.rows() for table in (first, second, third, learner.table())],
                         [[], [("a", "b")], [("a", "b"), ("ab", "ab")], [("b", "b")]])


class Sought(unittest.TestCase):

    def test_any_order_of_deeds(self):
        chance = random.Random(2828)
        for table in tables():
            learner = Learner(table)
            ahead, now, manys = [], table, {}
            pool = [text for text, _ in drawn_counted(chance, table, 5)]
            for _ in range(40):
                deed, text = chance.choice(["put", "put", "take", "step", "step", "back"]), chance.choice(pool)
                if deed == "put":
                    many = chance.choice([1, 2, 5])
                    learner.put(text, many)
                    manys[text] = manys.get(text, 0) + many
                elif deed == "take" and text in manys:
                    many = chance.choice([1, manys[text]])
                    learner.take(text, many)
                    manys[text] -= many
                    manys = {text: many for text, many in manys.items() if many}
                elif deed == "step":
                    least = chance.choice([1, 1, 4])
                    wanted = plain_step(now, list(manys.items()), least)
                    self.assertEqual(learner.step(least), wanted and wanted[1])
                    if wanted is not None:
                        ahead.append(now)
                        now = wanted[0]
                elif deed == "back" and ahead:
                    learner.step_back()
                    now = ahead.pop()
                counted = list(manys.items())
                self.assertEqual(all_told(learner), (
                    counted, plain_beside(now, counted), now.rows(), plain_pieces(now, counted)))
                self.assertEqual(learner.table().signs(), table.signs())

    def test_as_learnt_at_once(self):
        chance = random.Random(282828)
        for table in tables(10):
            counted = drawn_counted(chance, table, 5)
            learner = filled(table, counted)
            self.assertEqual(learner.beside(), beside(table, counted))
            log = []
            while (entry := learner.step(1)) is not None:
                log.append(entry)
            whole = learnt(table, counted, 24, 1)
            self.assertEqual((learner.table().rows(), log), (whole[0].rows(), whole[1]))


class WhatIsRefused(unittest.TestCase):

    def setUp(self):
        self.learner = filled(Table("abc", []), [("abab", 3), ("c", 1)])
        self.learner.step(1)
        self.ahead = all_told(self.learner)

    def no_deed(self, error, values, *told):
        for call in (self.learner.put, self.learner.take):
            refused(self, error, values, call, *told)
            self.assertEqual(all_told(self.learner), self.ahead)

    def test_no_text(self):
        for thing in no_texts():
            self.no_deed(NoSign, {"place": None}, thing, 1)
        for text, place in (("d", 0), ("abd", 2), ("a\n", 1), ("A", 0)):
            self.no_deed(NoSign, {"place": place}, text, 1)

    def test_no_many(self):
        for thing in no_manys():
            self.no_deed(NoCount, {"number": None}, "abab", thing)
            self.no_deed(NoCount, {"number": None}, "", thing)

    def test_the_text_goes_first(self):
        for thing in no_manys():
            self.no_deed(NoSign, {"place": None}, None, thing)
            self.no_deed(NoSign, {"place": 2}, "abd", thing)

    def test_taken_more_often_than_it_is_there(self):
        for text, many in (("abab", 4), ("abab", GREAT), ("c", 2), ("ab", 1), ("", 1), ("cc", GREAT)):
            refused(self, NoCount, {"number": None}, self.learner.take, text, many)
            self.assertEqual(all_told(self.learner), self.ahead)
        self.learner.take("c", 1)
        refused(self, NoCount, {"number": None}, self.learner.take, "c", 1)
        self.assertEqual(self.learner.counted(), [("abab", 3)])

    def test_nothing_to_take_back(self):
        self.learner.step_back()
        ahead = all_told(self.learner)
        refused(self, NoDeed, {}, self.learner.step_back)
        self.assertEqual(all_told(self.learner), ahead)
        self.assertEqual(self.learner.step(1), (0, 1, 6, 6))


class NothingKept(unittest.TestCase):

    def test_told_lists_are_the_askers_own(self):
        learner = filled(Table("abc", []), [("abab", 3), ("c", 1)])
        for deed in (lambda: learner.step(1), lambda: learner.put("cc", 1), learner.step_back, lambda: learner.step(1)):
            deed()
            ahead = all_told(learner)
            for told in (learner.counted(), learner.beside()):
                self.assertEqual({told.__class__, told[0].__class__}, {list, tuple})
                told.append("changed")
                told[0] = "changed"
                told.reverse()
                self.assertEqual(all_told(learner), ahead)

    def test_told_lists_stay(self):
        learner = filled(Table("abc", []), [("abab", 3)])
        counted, pairs = learner.counted(), learner.beside()
        learner.put("abab", 1)
        learner.step(1)
        learner.put("c", 1)
        self.assertEqual((counted, pairs), ([("abab", 3)], [(0, 1, 6), (1, 0, 3)]))

    def test_two_learners_beside_one_another(self):
        table = Table("ab", [])
        one, other = filled(table, [("ab", 1)]), filled(table, [("ba", 1)])
        one.step(1)
        self.assertEqual((one.table().rows(), other.table().rows()), ([("a", "b")], []))
        other.put("ab", 4)
        self.assertEqual((one.counted(), other.counted()), ([("ab", 1)], [("ba", 1), ("ab", 4)]))
        refused(self, NoDeed, {}, other.step_back)


if __name__ == "__main__":
    unittest.main()
