"""Points 7, 8 and 9, and point 2 of them."""

import unittest

from joinranks.errors import NoPiece, NoPlace, NoSign
from joinranks.sweeping import passed, rows_on_the_way, signs_of, swept, swept_from
from joinranks.tables import Table
from tests.samples import done_one_by_one, refused, some_texts, strange_things, tables


def plain_pass(row, left, right):
    """A row passed by a row of a table, by taking away the head bit by bit."""
    if len(row) < 2:
        return list(row)
    if row[0] == left and row[1] == right:
        return [left + right] + plain_pass(row[2:], left, right)
    return [row[0]] + plain_pass(row[1:], left, right)


class ByHand(unittest.TestCase):

    def setUp(self):
        self.table = Table("abc", [("a", "b"), ("ab", "c"), ("c", "c"), ("ab", "ab")])

    def test_signs_of(self):
        self.assertEqual(signs_of(self.table, "abcca"), ["a", "b", "c", "c", "a"])
        self.assertEqual(signs_of(self.table, ""), [])

    def test_passed(self):
        row = ["a", "b", "c", "a", "b", "ab", "c", "c", "c"]
        self.assertEqual(passed(self.table, row, 0), ["ab", "c", "ab", "ab", "c", "c", "c"])
        self.assertEqual(passed(self.table, row, 1), ["a", "b", "c", "a", "b", "abc", "c", "c"])
        self.assertEqual(passed(self.table, row, 2), ["a", "b", "c", "a", "b", "ab", "cc", "c"])
        self.assertEqual(passed(self.table, row, 3), row)
        self.assertEqual(passed(self.table, [], 3), [])

    def test_three_alike_in_a_row(self):
        self.assertEqual(passed(self.table, ["c", "c", "c"], 2), ["cc", "c"])
        self.assertEqual(passed(self.table, ["c"] * 4, 2), ["cc", "cc"])
        self.assertEqual(passed(self.table, ["c"] * 5, 2), ["cc", "cc", "c"])
        self.assertEqual(passed(self.table, ["ab"] * 3, 3), ["abab", "ab"])

    def test_a_joined_piece_is_not_joined_again_by_the_same_pass(self):
        table = Table("a", [("a", "a"), ("aa", "a"), ("aa", "aa")])
        self.assertEqual(passed(table, ["aa", "a", "a"], 1), ["aaa", "a"])
        self.assertEqual(passed(table, ["a", "a", "a"], 0), ["aa", "a"])
        self.assertEqual(swept(table, "aaa"), ["aaa"])
        self.assertEqual(swept(table, "aaaa"), ["aaaa"])
        self.assertEqual(swept(table, "aaaaa"), ["aa", "aaa"])

    def test_swept_from(self):
        row = ["a", "b", "ab", "c", "c", "c"]
        self.assertEqual(swept_from(self.table, row, 0), ["ab", "abc", "cc"])
        self.assertEqual(swept_from(self.table, row, 1), ["a", "b", "abc", "cc"])
        self.assertEqual(swept_from(self.table, row, 2), ["a", "b", "ab", "cc", "c"])
        self.assertEqual(swept_from(self.table, ["ab", "ab", "a", "b"], 3), ["abab", "a", "b"])
        self.assertEqual(swept_from(self.table, row, 4), row)
        self.assertEqual(swept_from(self.table, [], 0), [])

    def test_swept(self):
        self.assertEqual(swept(self.table, "abcabcc"), ["abc", "abc", "c"])
        self.assertEqual(swept(self.table, "abababcc"), ["abab", "abc", "c"])
        self.assertEqual(swept(self.table, "ababcc"), ["ab", "abc", "c"])
        self.assertEqual(swept(self.table, ""), [])
        self.assertEqual(swept(self.table, "b"), ["b"])

    def test_rows_on_the_way(self):
        self.assertEqual(rows_on_the_way(self.table, "ababcc"), [
            ["a", "b", "a", "b", "c", "c"], ["ab", "ab", "c", "c"], ["ab", "abc", "c"], ["ab", "abc", "c"],
            ["ab", "abc", "c"]])
        self.assertEqual(rows_on_the_way(self.table, ""), [[], [], [], [], []])

    def test_a_table_without_rows(self):
        table = Table("ab", [])
        self.assertEqual(swept(table, "aab"), ["a", "a", "b"])
        self.assertEqual(rows_on_the_way(table, "aab"), [["a", "a", "b"]])
        self.assertEqual(swept_from(table, ["b", "b"], 0), ["b", "b"])
        refused(self, NoPlace, {}, passed, table, ["b"], 0)
        refused(self, NoPlace, {}, swept_from, table, ["b"], 1)


class Sought(unittest.TestCase):

    def test_signs_and_passes(self):
        for table in tables():
            rows = table.rows()
            for text in some_texts(table.signs()):
                way = [list(text)]
                for left, right in rows:
                    way.append(plain_pass(way[-1], left, right))
                self.assertEqual(signs_of(table, text), way[0])
                self.assertEqual(rows_on_the_way(table, text), way)
                self.assertEqual(swept(table, text), way[-1])
                for rank in range(len(rows)):
                    self.assertEqual(passed(table, way[rank], rank), way[rank + 1])
                    self.assertEqual(swept_from(table, way[rank], rank), way[-1])
                self.assertEqual(swept_from(table, way[0], len(rows)), way[0])

    def test_any_row_of_pieces_is_passed(self):
        for table in tables():
            rows = table.rows()
            for row in (table.pieces(), table.pieces()[::-1], sorted(table.pieces() * 2)):
                for rank, (left, right) in enumerate(rows):
                    self.assertEqual(passed(table, row, rank), plain_pass(row, left, right))
                    behind = row
                    for later in rows[rank:]:
                        behind = plain_pass(behind, *later)
                    self.assertEqual(swept_from(table, row, rank), behind)

    def test_joinings_done_one_by_one_lead_to_the_cutting(self):
        for table in tables():
            for text in some_texts(table.signs()):
                self.assertEqual(swept(table, text), done_one_by_one(table.rows(), text)[1])

    def test_no_left_next_ahead_of_its_right(self):
        for table in tables():
            for text in some_texts(table.signs()):
                row = swept(table, text)
                self.assertEqual("".join(row), text)
                self.assertEqual([pair for pair in zip(row, row[1:]) if pair in table.rows()], [])

    def test_310_signs(self):
        table = Table("ab", [("a", "b"), ("ab", "ab"), ("abab", "abab"), ("abababab", "abababab")])
        self.assertEqual(swept(table, "ab" * 155), ["ab" * 8] * 19 + ["abab", "ab"])


class WhatIsRefused(unittest.TestCase):

    def setUp(self):
        self.table = Table("ab", [("a", "b"), ("ab", "a")])

    def test_what_is_no_text(self):
        for call in (signs_of, swept, rows_on_the_way):
            for thing in strange_things():
                if thing.__class__ != str:
                    refused(self, NoSign, {"place": None}, call, self.table, thing)

    def test_strange_signs(self):
        for call in (signs_of, swept, rows_on_the_way):
            for text, place in (("c", 0), ("abc", 2), ("acbc", 1), ("a b", 1), ("aab\n", 3), ("A", 0), ("\tab", 0)):
                refused(self, NoSign, {"place": place}, call, self.table, text)

    def test_what_is_no_row(self):
        for call in (passed, swept_from):
            for thing in strange_things():
                if thing.__class__ != list:
                    refused(self, NoPiece, {"place": None}, call, self.table, thing, 0)

    def test_things_that_are_no_pieces(self):
        for call in (passed, swept_from):
            for thing in strange_things():
                if thing.__class__ != str or thing not in ("a", "b", "ab", "aba"):
                    refused(self, NoPiece, {"place": 0}, call, self.table, [thing], 0)
                    refused(self, NoPiece, {"place": 2}, call, self.table, ["a", "aba", thing, "a", thing], 0)

    def test_what_is_no_rank(self):
        for call, most in ((passed, 1), (swept_from, 2)):
            for thing in strange_things() + [most + 1, -1, -2, True, False, 1.0]:
                if thing.__class__ != int or not 0 <= thing <= most:
                    refused(self, NoPlace, {}, call, self.table, ["a", "b"], thing)
        self.assertEqual(swept_from(self.table, ["a", "b"], 2), ["a", "b"])
        refused(self, NoPlace, {}, passed, self.table, ["a", "b"], 2)

    def test_the_row_goes_ahead_of_the_rank(self):
        for call in (passed, swept_from):
            for rank in (None, -1, 99, True):
                refused(self, NoPiece, {"place": None}, call, self.table, "ab", rank)
                refused(self, NoPiece, {"place": 1}, call, self.table, ["a", "bb"], rank)
                refused(self, NoPlace, {}, call, self.table, [], rank)


class NothingKept(unittest.TestCase):

    def setUp(self):
        self.table = Table("ab", [("a", "b"), ("ab", "a")])

    def test_what_is_handed_in_stays(self):
        row = ["a", "b", "a", "b"]
        for call, rank in ((passed, 0), (passed, 1), (swept_from, 0), (swept_from, 1), (swept_from, 2)):
            told = call(self.table, row, rank)
            self.assertEqual(row, ["a", "b", "a", "b"])
            again = list(told)
            row.append("a")
            self.assertEqual(told, again)
            row.pop()

    def test_a_told_row_is_a_new_one_also_where_nothing_joins(self):
        for row in ([], ["b"], ["b", "b"], ["aba", "aba"]):
            for call, rank in ((passed, 0), (passed, 1), (swept_from, 0), (swept_from, 1), (swept_from, 2)):
                told = call(self.table, row, rank)
                self.assertEqual(told, row)
                self.assertIsNot(told, row)

    def test_told_lists_are_the_askers_own(self):
        for text in ("", "b", "bb", "abab"):
            for call in (signs_of, swept, rows_on_the_way):
                ahead = [list(row) for row in call(self.table, text)]
                told = call(self.table, text)
                told.append("more")
                told[0] = "changed"
                self.assertEqual([list(row) for row in call(self.table, text)], ahead)

    def test_rows_on_the_way_are_all_unlike_lists(self):
        for text in ("", "b", "bb", "ab"):
            told = rows_on_the_way(self.table, text)
            ahead = [list(row) for row in told]
            for number, row in enumerate(told):
                row.append("more")
                self.assertEqual(told[number + 1:], ahead[number + 1:])
            self.assertEqual(rows_on_the_way(self.table, text), ahead)


if __name__ == "__main__":
    unittest.main()
