"""Point 10, and point 2 of it."""

import unittest

from joinranks.errors import NoSign
from joinranks.joinings import joinings, lets_joinings
from joinranks.sweeping import swept
from joinranks.tables import Table
from tests.samples import EqualToAll, done_one_by_one, refused, some_texts, strange_things, tables


def borders(row):
    """The places within the text of a row at which a piece ends."""
    return [sum(len(piece) for piece in row[:number]) for number in range(1, len(row))]


class Told(unittest.TestCase):

    def test_by_hand(self):
        table = Table("abc", [("a", "b"), ("ab", "c"), ("c", "c"), ("ab", "ab")])
        self.assertEqual(joinings(table, ""), [])
        self.assertEqual(joinings(table, "ba"), [])
        self.assertEqual(joinings(table, "ab"), [(0, 1)])
        self.assertEqual(joinings(table, "ababcc"), [(0, 1), (0, 3), (1, 4)])
        self.assertEqual(joinings(table, "cccabab"), [(0, 4), (0, 6), (2, 1), (3, 5)])

    def test_alike_in_a_row(self):
        table = Table("a", [("a", "a"), ("aa", "aa"), ("aa", "a")])
        self.assertEqual(joinings(table, "aaa"), [(0, 1), (2, 2)])
        self.assertEqual(joinings(table, "aaaaaaa"), [(0, 1), (0, 3), (0, 5), (1, 2), (2, 6)])

    def test_done_one_by_one(self):
        for table in tables():
            for text in some_texts(table.signs()):
                told = joinings(table, text)
                self.assertEqual(told, done_one_by_one(table.rows(), text)[0])
                self.assertIs(told.__class__, list)
                self.assertTrue(all(one.__class__ is tuple for one in told))

    def test_they_rise_and_leave_the_borders(self):
        for table in tables():
            for text in some_texts(table.signs()):
                told = joinings(table, text)
                self.assertEqual(told, sorted(told))
                places = [place for _, place in told]
                self.assertEqual(len(places), len(set(places)))
                left = [place for place in range(1, len(text)) if place not in places]
                self.assertEqual(left, borders(swept(table, text)))

    def test_what_is_no_text_of_the_table(self):
        table = Table("ab", [("a", "b")])
        for thing in strange_things():
            if thing.__class__ != str:
                refused(self, NoSign, {"place": None}, joinings, table, thing)
        refused(self, NoSign, {"place": 2}, joinings, table, "abcd")

    def test_told_lists_are_the_askers_own(self):
        table = Table("ab", [("a", "b")])
        told = joinings(table, "abab")
        told.clear()
        self.assertEqual(joinings(table, "abab"), [(0, 1), (0, 3)])


class Let(unittest.TestCase):

    def test_the_list_is_let_by(self):
        for table in tables():
            for text in some_texts(table.signs()):
                self.assertIs(lets_joinings(table, text, joinings(table, text)), True)

    def test_changed_lists_are_not(self):
        for table in tables(8):
            for text in some_texts(table.signs()):
                told = joinings(table, text)
                for changed in self.changed(told):
                    self.assertIs(lets_joinings(table, text, changed), changed == told, (text, changed))

    def changed(self, told):
        """The list longer, shorter, in another order, and with each joining changed."""
        yield told + [(0, 1)]
        yield [(0, 1)] + told
        yield told + [None]
        yield told[::-1]
        yield told + told
        for number, (rank, place) in enumerate(told):
            head, tail = told[:number], told[number + 1:]
            yield head
            yield tail
            yield head + tail
            for other in ((rank + 1, place), (rank - 1, place), (rank, place + 1), (rank, place - 1), (place, rank),
                          (rank, place, place), (rank,), (), None, (rank, None), (None, place)):
                yield head + [other] + tail

    def test_other_kinds_are_not(self):
        table = Table("ab", [("a", "b"), ("b", "a")])
        self.assertEqual(joinings(table, "abba"), [(0, 1), (1, 3)])
        for thing in strange_things() + [((0, 1), (1, 3)), [[0, 1], [1, 3]], [(0, 1), [1, 3]], ["01", "13"],
                                         [("0", "1"), ("1", "3")], {(0, 1): 0, (1, 3): 0}, "[(0, 1), (1, 3)]"]:
            self.assertIs(lets_joinings(table, "abba", thing), False, repr(thing))
        self.assertIs(lets_joinings(table, "abba", [(0, 1), (1, 3)]), True)

    def test_nothing_but_the_empty_list_where_nothing_joins(self):
        table = Table("ab", [("a", "b")])
        for text in ("", "a", "ba"):
            self.assertIs(lets_joinings(table, text, []), True)
            for thing in strange_things():
                if thing.__class__ != list or thing:
                    self.assertIs(lets_joinings(table, text, thing), False, repr(thing))

    def test_numbers_are_whole_ones(self):
        table = Table("ab", [("a", "b"), ("b", "a")])
        for wrong in ([(False, 1), (1, 3)], [(0, True), (1, 3)], [(0, 1), (True, 3)], [(0.0, 1), (1, 3)],
                      [(0, 1.0), (1, 3)], [(0, 1), (1, 3.0)], [(0, 1), (1, EqualToAll())],
                      [(0, 1), EqualToAll()], [EqualToAll(), EqualToAll()]):
            self.assertIs(lets_joinings(table, "abba", wrong), False, repr(wrong))

    def test_a_strange_sign_goes_ahead_of_the_thing(self):
        table = Table("ab", [("a", "b")])
        for thing in strange_things() + [[(0, 1)]]:
            refused(self, NoSign, {"place": 2}, lets_joinings, table, "abc", thing)
            refused(self, NoSign, {"place": None}, lets_joinings, table, None, thing)
            refused(self, NoSign, {"place": None}, lets_joinings, table, ["a"], thing)

    def test_the_thing_stays_as_it_is(self):
        table = Table("ab", [("a", "b")])
        for thing in ([(0, 1)], [(0, 1), (0, 3)], [None]):
            ahead = list(thing)
            lets_joinings(table, "abab", thing)
            self.assertEqual(thing, ahead)


if __name__ == "__main__":
    unittest.main()
