"""Points 5 and 6, and point 2 of tables."""

import unittest

from joinranks.errors import NoNumber, NoPiece, NoTable
from joinranks.tables import Table
from tests.samples import BY_HAND, EqualToAll, drawn_tables, refused, strange_things

ALL_SIGNS = "".join(chr(code) for code in range(32, 127) if chr(code) != chr(37))


def many_rows(many):
    """So many right rows over the signs abcdef."""
    return [(left, right) for left in "abcdef" for right in "abcdef"][:many]


class WhatIsRefused(unittest.TestCase):

    def no_signs(self, number, signs, rows=None):
        refused(self, NoTable, {"part": "signs", "number": number}, Table, signs, [] if rows is None else rows)

    def no_rows(self, number, signs, rows):
        refused(self, NoTable, {"part": "rows", "number": number}, Table, signs, rows)

    def test_how_many_signs(self):
        self.assertEqual(Table("a", []).signs(), "a")
        self.assertEqual(Table("abcdefghijkl", []).signs(), "abcdefghijkl")
        self.no_signs(None, "")
        self.no_signs(None, "abcdefghijklm")
        self.no_signs(None, "a" * 13)
        self.no_signs(None, "\t" * 13)

    def test_which_signs(self):
        for sign in ALL_SIGNS:
            self.assertEqual(Table(sign, []).signs(), sign)
        for code in list(range(32)) + [37] + list(range(127, 300)) + [8364, 65296]:
            self.no_signs(0, chr(code))
            self.no_signs(2, "ab" + chr(code) + "c")

    def test_the_first_wrong_sign(self):
        self.no_signs(1, "aa")
        self.no_signs(3, "abca")
        self.no_signs(2, "abbaa")
        self.no_signs(2, "ab\taa")
        self.no_signs(1, "aa\t\n")
        self.no_signs(2, "ab\n")
        self.no_signs(1, "a" + chr(37))
        self.no_signs(11, "abcdefghijka")

    def test_signs_that_are_no_text(self):
        for thing in strange_things() + [["a", "b"], ("a", "b")]:
            if thing.__class__ != str:
                self.no_signs(None, thing)

    def test_how_many_rows(self):
        self.assertEqual(Table("abcdef", many_rows(24)).rows(), many_rows(24))
        self.no_rows(None, "abcdef", many_rows(25))
        self.no_rows(None, "abcdef", [None] * 25)
        self.no_rows(0, "abcdef", [None] * 24)

    def test_rows_that_are_no_list(self):
        for thing in strange_things() + [(("a", "b"),), "ab"]:
            if thing.__class__ != list:
                self.no_rows(None, "ab", thing)

    def test_a_row_that_is_no_tuple_of_two(self):
        for thing in strange_things() + [["a", "b"], "ab", ("a",), ("a", "b", "a"), ("a", "b", None)]:
            if thing != ("a", "b"):
                self.no_rows(0, "ab", [thing])
                self.no_rows(1, "ab", [("b", "a"), thing, ("a", "a")])

    def test_a_thing_that_is_equal_to_a_row(self):
        self.no_rows(0, "ab", [EqualToAll()])
        self.no_rows(0, "ab", [(EqualToAll(), "b")])

    def test_a_part_that_is_no_piece(self):
        for thing in strange_things():
            if thing.__class__ != str or thing not in ("a", "ab"):
                self.no_rows(1, "ab", [("a", "b"), (thing, "b")])
                self.no_rows(1, "ab", [("a", "b"), ("b", thing)])

    def test_a_part_that_comes_later(self):
        self.no_rows(0, "ab", [("ab", "a"), ("a", "b")])
        self.no_rows(0, "ab", [("a", "ab"), ("a", "b")])
        self.no_rows(1, "ab", [("a", "b"), ("ba", "b"), ("b", "a")])
        self.assertEqual(Table("ab", [("a", "b"), ("ab", "a")]).rows(), [("a", "b"), ("ab", "a")])

    def test_a_part_that_its_own_row_makes(self):
        self.no_rows(0, "a", [("aa", "a")])
        self.no_rows(0, "a", [("a", "aa")])
        self.no_rows(0, "a", [("a", "")])
        self.no_rows(0, "a", [("", "a")])

    def test_how_long_a_joined_text(self):
        doubled = [("a" * many, "a" * many) for many in (1, 2, 4, 8)]
        self.assertEqual(Table("a", doubled).longest(), 16)
        self.no_rows(4, "a", doubled + [("a" * 16, "a")])
        self.no_rows(4, "ab", doubled + [("b", "a" * 16)])
        self.no_rows(4, "a", doubled + [("a" * 16, "a" * 16)])
        fifteen = doubled + [("aaaa", "aa"), ("aaaaaa", "a"), ("a" * 8, "a" * 7), ("b", "a" * 15)]
        self.assertEqual(Table("ab", fifteen).longest(), 16)

    def test_a_joined_text_that_is_a_piece_already(self):
        self.no_rows(1, "ab", [("a", "b"), ("a", "b")])
        self.no_rows(2, "a", [("a", "a"), ("a", "aa"), ("aa", "a")])
        self.no_rows(3, "abc", [("a", "b"), ("b", "c"), ("ab", "c"), ("a", "bc")])

    def test_the_first_wrong_row(self):
        self.no_rows(0, "ab", [None, ("a", "b"), None])
        self.no_rows(1, "ab", [("a", "b"), None, ("a", "b")])
        self.no_rows(2, "ab", [("a", "b"), ("b", "a"), ("b", "a"), None])

    def test_signs_go_ahead_of_rows(self):
        for rows in (None, [None], [None] * 25, ()):
            self.no_signs(None, "", rows)
            self.no_signs(1, "aa", rows)
            self.no_signs(None, None, rows)


class WhatIsTold(unittest.TestCase):

    def setUp(self):
        self.table = Table("ba", [("a", "b"), ("ab", "a"), ("b", "b")])

    def test_signs_rows_pieces(self):
        self.assertEqual(self.table.signs(), "ba")
        self.assertEqual(self.table.rows(), [("a", "b"), ("ab", "a"), ("b", "b")])
        self.assertEqual(self.table.pieces(), ["b", "a", "ab", "aba", "bb"])
        self.assertIs(self.table.rows().__class__, list)
        self.assertEqual([row.__class__ for row in self.table.rows()], [tuple] * 3)

    def test_a_table_without_rows(self):
        table = Table("x", [])
        self.assertEqual((table.signs(), table.rows(), table.pieces(), table.longest()), ("x", [], ["x"], 1))

    def test_which(self):
        for number, piece in enumerate(["b", "a", "ab", "aba", "bb"]):
            self.assertEqual(self.table.which(piece), number)
        for thing in strange_things() + ["ba", "aa", "abab", "bbb", " a", "A"]:
            if thing.__class__ != str or thing not in ("a", "b", "ab", "aba", "bb"):
                self.assertIsNone(self.table.which(thing), repr(thing))

    def test_piece(self):
        self.assertEqual([self.table.piece(number) for number in range(5)], ["b", "a", "ab", "aba", "bb"])
        for thing in strange_things() + [5, 6, -1, -5, 10 ** 59]:
            if thing.__class__ != int or not 0 <= thing < 5:
                refused(self, NoNumber, {"place": None}, self.table.piece, thing)

    def test_truths_are_no_numbers(self):
        refused(self, NoNumber, {"place": None}, self.table.piece, True)
        refused(self, NoNumber, {"place": None}, self.table.piece, False)
        refused(self, NoNumber, {"place": None}, self.table.piece, 1.0)

    def test_parts(self):
        told = [self.table.parts(piece) for piece in self.table.pieces()]
        self.assertEqual(told, [None, None, ("a", "b"), ("ab", "a"), ("b", "b")])
        for thing in strange_things() + ["ba", "aa", ""]:
            if thing.__class__ != str or self.table.which(thing) is None:
                refused(self, NoPiece, {"place": None}, self.table.parts, thing)

    def test_rank(self):
        self.assertEqual(self.table.rank("a", "b"), 0)
        self.assertEqual(self.table.rank("ab", "a"), 1)
        self.assertEqual(self.table.rank("b", "b"), 2)
        for pair in (("b", "a"), ("a", "a"), ("a", "ba"), ("aba", ""), ("ab", "ab"), ("a", "ab")):
            self.assertIsNone(self.table.rank(*pair))

    def test_rank_of_any_two_things(self):
        for thing in strange_things():
            for other in strange_things():
                if thing.__class__ != str or other.__class__ != str:
                    self.assertIsNone(self.table.rank(thing, other))
            if thing.__class__ != str:
                self.assertIsNone(self.table.rank("a", thing))
                self.assertIsNone(self.table.rank(thing, "b"))

    def test_longest(self):
        self.assertEqual(self.table.longest(), 3)
        self.assertEqual(Table("ab", [("a", "b"), ("ab", "ab"), ("b", "b")]).longest(), 4)

    def test_many_tables(self):
        for signs, rows in BY_HAND + drawn_tables(60):
            table = Table(signs, rows)
            pieces = list(signs) + [left + right for left, right in rows]
            self.assertEqual((table.signs(), table.rows(), table.pieces()), (signs, rows, pieces))
            self.assertEqual(table.longest(), max(len(piece) for piece in pieces))
            for number, piece in enumerate(pieces):
                self.assertEqual((table.which(piece), table.piece(number)), (number, piece))
                row = None if number < len(signs) else rows[number - len(signs)]
                self.assertEqual(table.parts(piece), row)
                for other in pieces:
                    rank = rows.index((piece, other)) if (piece, other) in rows else None
                    self.assertEqual(table.rank(piece, other), rank)


class NothingKept(unittest.TestCase):

    def all_told(self, table):
        return (table.signs(), list(table.rows()), list(table.pieces()), table.longest(), table.rank("a", "b"),
                table.rank("b", "a"), table.which("ab"), table.which("ba"), table.piece(2), table.parts("ab"))

    def test_rows_are_changed_behind_the_making(self):
        rows = [("a", "b"), ("ab", "a")]
        table = Table("ab", rows)
        self.assertEqual(rows, [("a", "b"), ("ab", "a")])
        ahead = self.all_told(table)
        rows[0] = ("b", "a")
        rows.append(("b", "b"))
        self.assertEqual(self.all_told(table), ahead)
        rows.clear()
        self.assertEqual(self.all_told(table), ahead)

    def test_told_lists_are_the_askers_own(self):
        table = Table("ab", [("a", "b"), ("ab", "a")])
        ahead = self.all_told(table)
        for ask in (table.rows, table.pieces):
            told = ask()
            told[0] = "changed"
            told.append("more")
            self.assertEqual(self.all_told(table), ahead)
            told.clear()
            self.assertEqual(self.all_told(table), ahead)

    def test_a_refusal_changes_nothing(self):
        table = Table("ab", [("a", "b"), ("ab", "a")])
        ahead = self.all_told(table)
        refused(self, NoNumber, {"place": None}, table.piece, 99)
        refused(self, NoPiece, {"place": None}, table.parts, "bb")
        self.assertEqual(self.all_told(table), ahead)
        rows = [("a", "b"), None]
        refused(self, NoTable, {"part": "rows", "number": 1}, Table, "ab", rows)
        self.assertEqual(rows, [("a", "b"), None])


if __name__ == "__main__":
    unittest.main()
