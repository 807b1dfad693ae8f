"""Point 36; points 2, 3 (k) and 4 of it."""

import random
import re
import unittest

from joinranks.errors import NoText
from joinranks.tables import Table
from joinranks.texts import read_numbers, read_table, show_numbers, show_table
from tests.samples import abc_table, no_texts, refused, tables

NUMBER = "(0|[1-9][0-9]{0,59})"


def plain_wrong_row(text):
    """The number of the first row that is wrong, row by row; None where all are right."""
    lines = text.split("\n")
    found = re.fullmatch("signs ([ -~]{1,12})", lines[0])
    if not found or len(set(found[1])) < len(found[1]) or chr(37) in found[1]:
        return 0
    pieces = list(found[1])
    for number, line in enumerate(lines[1:], 1):
        found = re.fullmatch(NUMBER + " " + NUMBER, line)
        if not found or max(int(found[1]), int(found[2])) >= len(pieces) or number > 24:
            return number
        joined = pieces[int(found[1])] + pieces[int(found[2])]
        if joined in pieces or len(joined) > 16:
            return number
        pieces.append(joined)
    return None


class Written(unittest.TestCase):

    def test_by_hand(self):
        self.assertEqual(show_table(Table("ba", [])), "signs ba")
        self.assertEqual(show_table(abc_table()), "signs abc\n0 1\n1 2\n0 4")
        self.assertEqual(show_table(Table("a b", [(" ", "a"), (" a", " ")])), "signs a b\n1 0\n3 1")
        self.assertEqual(show_table(Table(" ", [])), "signs  ")
        signs = "abcdefghijkl"
        self.assertEqual(show_table(Table(signs, [("a", "l"), ("al", "k")])), "signs abcdefghijkl\n0 11\n12 10")

    def test_read_back(self):
        for table in tables(60) + [Table(" ", []), Table(" ~", [("~", " ")]), Table("12 ", [("1", "2")])]:
            told = read_table(show_table(table))
            self.assertIsInstance(told, Table)
            self.assertEqual((told.signs(), told.rows()), (table.signs(), table.rows()))
            self.assertEqual(show_table(told), show_table(table))

    def test_blanks_among_the_signs(self):
        for signs in (" ", " a", "a ", "a b", "si ", " -"):
            told = read_table("signs " + signs)
            self.assertEqual((told.signs(), told.rows()), (signs, []))


class NoTables(unittest.TestCase):

    def test_what_is_no_text(self):
        for thing in no_texts():
            refused(self, NoText, {"row": 0}, read_table, thing)

    def test_the_first_row(self):
        percent = chr(37)
        for text in ("", " ", "\n", "signs", "signs ", "sign ab", "Signs ab", " signs ab", "signs\tab", "signsab",
                     "signs aa", "signs aba", "signs  a ", "signs abcdefghijklm", "signs a" + percent, "signs a\t",
                     "signs \n0 0", "0 0", "signs aa\n0 9", "signs a\x7f", "signs ab\r", "\nsigns ab"):
            refused(self, NoText, {"row": 0}, read_table, text)

    def test_further_rows(self):
        for line in ("", " ", "0", "0 ", " 0 1", "0  1", "0 1 ", "0 1 2", "0 2", "2 0", "00 1", "0 01", "+0 1", "-0 1",
                     "0,1", "0\t1", "a b", "0 1\t", "\u0660 1", "0 1.0", "0 " + "9" * 60, "0 1" + "0" * 60, "0 -1"):
            refused(self, NoText, {"row": 1}, read_table, "signs ab\n" + line)
            refused(self, NoText, {"row": 1}, read_table, "signs ab\n" + line + "\n0 1")
        for text, row in (("signs ab\n0 1\n", 2), ("signs ab\n0 1\n\n", 2), ("signs ab\n0 1\n0 1", 2),
                          ("signs ab\n0 1\n2 2\n4 0", 3), ("signs ab\n0 1\n1 0\n0 3\n2 0", 4),
                          ("signs ab\n2 0\n0 1", 1)):
            refused(self, NoText, {"row": row}, read_table, text)

    def test_more_than_24_rows(self):
        lines = ["signs abcde"] + [f"{left} {right}" for left in range(5) for right in range(5)]
        self.assertEqual(len(read_table("\n".join(lines[:25])).rows()), 24)
        refused(self, NoText, {"row": 25}, read_table, "\n".join(lines))
        refused(self, NoText, {"row": 25}, read_table, "\n".join(lines[:25] + ["x"]))
        refused(self, NoText, {"row": 25}, read_table, "\n".join(lines[:25] + [""]))

    def test_more_than_16_signs(self):
        lines = ["signs a", "0 0", "1 1", "2 2", "3 3"]
        self.assertEqual(read_table("\n".join(lines)).longest(), 16)
        refused(self, NoText, {"row": 5}, read_table, "\n".join(lines + ["4 0"]))
        refused(self, NoText, {"row": 4}, read_table, "\n".join(lines[:4] + ["4 0"]))

    def test_texts_that_are_nearly_right(self):
        chance = random.Random(36)
        seen = []
        for table in tables(60):
            for _ in range(12):
                text = show_table(table)
                for _ in range(chance.choice([1, 1, 2])):
                    at = chance.randrange(len(text) + 1)
                    put = chance.choice(["", "0", "1", "2", " ", "\n", "a", "b", "\n0 1", "\t"])
                    text = text[:at] + put + text[at + chance.choice([0, 1, 1, 2]):]
                wrong = plain_wrong_row(text)
                seen.append(wrong)
                if wrong is None:
                    self.assertEqual(show_table(read_table(text)), text)
                else:
                    refused(self, NoText, {"row": wrong}, read_table, text)
        for row in (None, 0, 1, 2, 3, 5):
            self.assertGreater(seen.count(row), 5)


class Numbers(unittest.TestCase):

    def test_written_and_read_back(self):
        for numbers, text in (([], ""), ([0], "0"), ([0, 1, 0], "0 1 0"), ([10, 205], "10 205"),
                              ([10 ** 60 - 1, 7], "9" * 60 + " 7"), ([3] * 310, " ".join("3" * 310))):
            self.assertEqual(show_numbers(numbers), text)
            told = read_numbers(text)
            self.assertEqual(told, numbers)
            self.assertEqual([number.__class__ for number in told], [int] * len(told))

    def test_what_is_no_text(self):
        for thing in no_texts():
            refused(self, NoText, {"row": 0}, read_numbers, thing)

    def test_what_writes_no_list(self):
        for text in (" ", "  ", "0 ", " 0", "0  1", "00", "01", "1 01", "+1", "-1", "1.0", "a", "1 a", "1,2", "1\n2",
                     "1\n", "\n", "1\t2", "1" * 61, "5 " + "1" * 61, "0" * 2, "1_0", "\u0661", "1e1", "-"):
            refused(self, NoText, {"row": 0}, read_numbers, text)

    def test_nothing_kept(self):
        numbers = [1, 2]
        self.assertEqual(show_numbers(numbers), "1 2")
        self.assertEqual(numbers, [1, 2])
        told = read_numbers("1 2")
        told.append("changed")
        self.assertEqual(read_numbers("1 2"), [1, 2])
        read_numbers("").append("changed")
        self.assertEqual(read_numbers(""), [])


if __name__ == "__main__":
    unittest.main()
