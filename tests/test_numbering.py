"""Point 16, point 7 of rows, and point 2 of it."""

import unittest

from joinranks.errors import NoNumber, NoPiece
from joinranks.numbering import borders_of, numbers_of, pieces_of, text_of
from joinranks.tables import Table
from tests.samples import refused, strange_things, tables


class Numbering(unittest.TestCase):

    def setUp(self):
        self.table = Table("ba", [("a", "b"), ("ab", "a")])

    def test_the_empty_row(self):
        self.assertEqual(text_of(self.table, []), "")
        self.assertEqual(numbers_of(self.table, []), [])
        self.assertEqual(borders_of(self.table, []), [])
        self.assertEqual(pieces_of(self.table, []), [])

    def test_one_piece(self):
        for number, piece in enumerate(["b", "a", "ab", "aba"]):
            self.assertEqual(text_of(self.table, [piece]), piece)
            self.assertEqual(numbers_of(self.table, [piece]), [number])
            self.assertEqual(borders_of(self.table, [piece]), [])
            self.assertEqual(pieces_of(self.table, [number]), [piece])

    def test_several_pieces(self):
        row = ["aba", "a", "b", "ab", "aba"]
        self.assertEqual(text_of(self.table, row), "abaabababa")
        self.assertEqual(numbers_of(self.table, row), [3, 1, 0, 2, 3])
        self.assertEqual(borders_of(self.table, row), [3, 4, 5, 7])
        self.assertEqual(pieces_of(self.table, [3, 1, 0, 2, 3]), row)

    def test_there_and_back(self):
        for table in tables():
            row = table.pieces() + table.pieces()[::-1]
            numbers = list(range(len(table.pieces()))) + list(range(len(table.pieces())))[::-1]
            self.assertEqual(numbers_of(table, row), numbers)
            self.assertEqual(pieces_of(table, numbers), row)
            text, borders = text_of(table, row), borders_of(table, row)
            self.assertEqual([text[one:other] for one, other in zip([0] + borders, borders + [len(text)])], row)

    def test_what_is_no_row(self):
        for call in (text_of, numbers_of, borders_of):
            for thing in strange_things():
                if thing.__class__ != list:
                    refused(self, NoPiece, {"place": None}, call, self.table, thing)
                if thing.__class__ != str or thing not in ("b", "a", "ab", "aba"):
                    refused(self, NoPiece, {"place": 0}, call, self.table, [thing])
                    refused(self, NoPiece, {"place": 2}, call, self.table, ["a", "aba", thing, "b", thing])
            refused(self, NoPiece, {"place": 1}, call, self.table, ["a", "ba"])

    def test_what_is_no_list_of_numbers(self):
        for thing in strange_things():
            if thing.__class__ != list:
                refused(self, NoNumber, {"place": None}, pieces_of, self.table, thing)
        for thing in strange_things() + [4, -1, -4, True, False, 1.0, 2.0]:
            if thing.__class__ != int or not 0 <= thing < 4:
                refused(self, NoNumber, {"place": 0}, pieces_of, self.table, [thing])
                refused(self, NoNumber, {"place": 2}, pieces_of, self.table, [3, 0, thing, 1, thing])

    def test_what_is_handed_in_stays(self):
        row, numbers = ["a", "ab"], [1, 2]
        for call in (text_of, numbers_of, borders_of):
            call(self.table, row)
            self.assertEqual(row, ["a", "ab"])
        told = pieces_of(self.table, numbers)
        self.assertEqual(numbers, [1, 2])
        numbers.append(0)
        self.assertEqual(told, ["a", "ab"])

    def test_told_lists_are_the_askers_own(self):
        row, numbers = ["a", "ab", "b"], [1, 2, 0]
        for call, handed in ((numbers_of, row), (borders_of, row), (pieces_of, numbers)):
            told = call(self.table, handed)
            ahead = list(told)
            self.assertIsNot(told, handed)
            told.clear()
            self.assertEqual(call(self.table, handed), ahead)
        self.assertEqual((row, numbers), (["a", "ab", "b"], [1, 2, 0]))
        self.assertEqual(self.table.pieces(), ["b", "a", "ab", "aba"])


if __name__ == "__main__":
    unittest.main()
