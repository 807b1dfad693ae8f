"""Points 29, 30 and the trimming of 31; points 2, 3 (g) and (h), 9 and 12 of them."""

import random
import unittest

from joinranks.errors import NoLead, NoPlace, NoTable
from joinranks.tables import Table
from joinranks.tableworks import beginning, led, renamed, trimmed
from tests.samples import (abc_table, chance_rows, drawn_text, ends_of, no_places, no_texts, plain_cut, refused,
                           some_texts, tables)


def parts_of(table):
    """A table's signs and rows."""
    return table.signs(), table.rows()


class Beginnings(unittest.TestCase):

    def test_every_number_of_rows(self):
        for table in tables():
            signs, rows = parts_of(table)
            for many in range(len(rows) + 1):
                told = beginning(table, many)
                self.assertIsInstance(told, Table)
                self.assertEqual(parts_of(told), (signs, rows[:many]))
            self.assertEqual(parts_of(table), (signs, rows))

    def test_no_row_and_all_rows(self):
        self.assertEqual(parts_of(beginning(abc_table(), 0)), ("abc", []))
        self.assertEqual(parts_of(beginning(abc_table(), 3)), parts_of(abc_table()))
        self.assertEqual(parts_of(beginning(Table("ba", []), 0)), ("ba", []))

    def test_borders_of_a_longer_one_are_those_of_a_shorter_one_too(self):
        for table in tables(8):
            for text in some_texts(table.signs(), 20):
                ends = set(range(1, len(text) + 1))
                for many in range(len(table.rows()) + 1):
                    now = set(ends_of(plain_cut(beginning(table, many).rows(), text)))
                    self.assertLessEqual(now, ends)
                    ends = now

    def test_what_is_no_number_of_rows(self):
        for table in (abc_table(), Table("a", []), tables(0)[-1]):
            for thing in no_places(len(table.rows())):
                refused(self, NoPlace, {}, beginning, table, thing)


class Renamed(unittest.TestCase):

    def test_signs_turned_about(self):
        table = Table("abc", [("a", "b"), ("ab", "c"), ("c", "c"), ("abc", "ab")])
        self.assertEqual(parts_of(renamed(table, "bca")),
                         ("bca", [("b", "c"), ("bc", "a"), ("a", "a"), ("bca", "bc")]))
        self.assertEqual(parts_of(renamed(table, "bac"))[1], [("b", "a"), ("ba", "c"), ("c", "c"), ("bac", "ba")])
        self.assertEqual(parts_of(renamed(table, "abc")), parts_of(table))

    def test_other_signs(self):
        table = Table("ab", [("a", "b"), ("b", "ab")])
        self.assertEqual(parts_of(renamed(table, " ~")), (" ~", [(" ", "~"), ("~", " ~")]))
        self.assertEqual(parts_of(renamed(table, "bc")), ("bc", [("b", "c"), ("c", "bc")]))
        self.assertEqual(parts_of(renamed(Table("ba", []), "xy")), ("xy", []))

    def test_texts_are_cut_as_their_renamed_ones(self):
        chance = random.Random(29)
        for table in tables(10):
            for signs in ("".join(chance.sample(table.signs(), len(table.signs()))), "x y~ba"[:len(table.signs())]):
                told = renamed(table, signs)
                turned = str.maketrans(table.signs(), signs)
                for text in some_texts(table.signs(), 20):
                    self.assertEqual([piece.translate(turned) for piece in plain_cut(table.rows(), text)],
                                     plain_cut(told.rows(), text.translate(turned)))
                self.assertEqual(parts_of(renamed(told, table.signs())), parts_of(table))

    def test_what_can_be_no_signs(self):
        for thing in no_texts():
            refused(self, NoTable, {"part": "signs", "number": None}, renamed, abc_table(), thing)
        wrong = chr(37)
        for signs, number in (("", None), ("abcdefghijklm", None), ("aba", 2), ("ab\n", 2), (wrong + "bc", 0),
                              ("a\x7fa", 1), ("aa" + wrong, 1)):
            refused(self, NoTable, {"part": "signs", "number": number}, renamed, abc_table(), signs)

    def test_signs_that_are_not_as_many(self):
        for signs in ("a", "xy", "abcd", "abcdefghijkl"):
            refused(self, NoTable, {"part": "signs", "number": None}, renamed, abc_table(), signs)
        # That they can be no signs goes first.
        refused(self, NoTable, {"part": "signs", "number": 1}, renamed, abc_table(), "aa")
        refused(self, NoTable, {"part": "signs", "number": 4}, renamed, abc_table(), "abcdd")


class Led(unittest.TestCase):

    def test_by_hand(self):
        one = Table("ab", [("a", "b"), ("ab", "a")])
        other = Table("cba", [("c", "b"), ("b", "a"), ("a", "b"), ("a", "ba"), ("ba", "c")])
        # The piece aba is made by both, each in its own way: the row of the one makes it.
        self.assertEqual(parts_of(led(one, other)),
                         ("abc", [("a", "b"), ("ab", "a"), ("c", "b"), ("b", "a"), ("ba", "c")]))
        self.assertEqual(parts_of(led(other, one)), parts_of(other))
        self.assertEqual(led(one, other).pieces(), ["a", "b", "c", "ab", "aba", "cb", "ba", "bac"])

    def test_signs_in_their_order(self):
        self.assertEqual(led(Table("db", []), Table("cbad", [])).signs(), "dbca")
        self.assertEqual(led(Table("cbad", []), Table("db", [])).signs(), "cbad")
        self.assertEqual(led(Table("b", []), Table("a ", [])).signs(), "ba ")

    def test_a_table_led_by_itself_and_by_one_without_rows(self):
        for table in tables(8):
            self.assertEqual(parts_of(led(table, table)), parts_of(table))
            self.assertEqual(parts_of(led(table, Table(table.signs()[::-1], []))), parts_of(table))
            self.assertEqual(led(Table(table.signs()[::-1], []), table).rows(), table.rows())

    def test_twelve_signs_and_more(self):
        one = Table("abcdefg", [("a", "b")])
        self.assertEqual(led(one, Table("hijkl", [("h", "i")])).signs(), "abcdefghijkl")
        self.assertEqual(led(one, Table("ahbijgkl", [])).signs(), "abcdefghijkl")
        refused(self, NoLead, {}, led, one, Table("hijklm", []))
        refused(self, NoLead, {}, led, Table("abcdefghijkl", []), Table("m", []))
        refused(self, NoLead, {}, led, Table("m", []), Table("abcdefghijkl", []))

    def test_24_rows_and_more(self):
        pairs = [(left, right) for left in "abcde" for right in "abcde"]
        one = Table("abcde", pairs[:20])
        told = led(one, Table("edcba", pairs[12:24]))
        self.assertEqual(parts_of(told), ("abcde", pairs[:24]))
        refused(self, NoLead, {}, led, one, Table("edcba", pairs[12:]))
        refused(self, NoLead, {}, led, told, Table("e", pairs[24:]))
        refused(self, NoLead, {}, led, Table("e", pairs[24:]), told)
        self.assertEqual(parts_of(led(told, one)), parts_of(told))

    def tried(self, one, other):
        """Two tables led, None where that is refused, or where one of them is None."""
        if one is None or other is None:
            return None
        try:
            return led(one, other)
        except NoLead:
            return None

    def test_in_any_grouping(self):
        chance = random.Random(30)
        refusals = 0
        for _ in range(300):
            three = []
            for _ in range(3):
                signs = "".join(chance.sample("abcdefghijklmn"[:chance.choice([3, 4, 14])], chance.choice([1, 2, 3])))
                three.append(Table(signs, chance_rows(chance, signs, chance.choice([0, 2, 6, 10]))))
            one, other, third = three
            left = self.tried(self.tried(one, other), third)
            right = self.tried(one, self.tried(other, third))
            if left is None or right is None:
                refusals += 1
                self.assertEqual((left, right), (None, None))
                continue
            self.assertEqual(parts_of(left), parts_of(right))
            self.assertEqual(set(left.pieces()), {piece for table in three for piece in table.pieces()})
        self.assertTrue(5 < refusals < 295, refusals)

    def test_no_border_comes_in_the_first_ones_texts(self):
        chance = random.Random(3030)
        for table in tables(10):
            other = Table("ba", chance_rows(chance, "ba", 4))
            told = self.tried(table, other)
            if told is None:
                continue
            self.assertEqual(told.rows()[:len(table.rows())], table.rows())
            for text in some_texts(table.signs(), 20):
                self.assertLessEqual(set(ends_of(plain_cut(told.rows(), text))),
                                     set(ends_of(plain_cut(table.rows(), text))))


def without_row(rows, number):
    """Rows without that one, and without those that need what is not made then."""
    made = {left + right for left, right in rows[number:number + 1]}
    told = []
    for at, (left, right) in enumerate(rows):
        if at == number or left in made or right in made:
            made.add(left + right)
        else:
            told.append((left, right))
    return told


class Trimmed(unittest.TestCase):

    def test_by_hand(self):
        self.assertEqual(parts_of(trimmed(abc_table())), ("abc", [("a", "b"), ("b", "c")]))
        self.assertEqual(parts_of(trimmed(Table("ba", []))), ("ba", []))
        self.assertEqual(parts_of(trimmed(Table("a", [("a", "a"), ("a", "aa"), ("aa", "aa"), ("aaa", "aa")]))),
                         ("a", [("a", "a"), ("aa", "aa")]))

    def test_just_the_rows_that_make_no_idle_piece(self):
        idle = 0
        for table in tables(60):
            rows = [row for row in table.rows() if plain_cut(table.rows(), row[0] + row[1]) == [row[0] + row[1]]]
            idle += len(table.rows()) - len(rows)
            self.assertEqual(parts_of(trimmed(table)), (table.signs(), rows))
            self.assertEqual(parts_of(trimmed(trimmed(table))), (table.signs(), rows))
        self.assertGreater(idle, 50)

    def test_every_text_is_cut_as_by_the_whole_one(self):
        chance = random.Random(31)
        for table in tables(40):
            rows = trimmed(table).rows()
            drawn = ["".join(chance.choice(table.pieces()) for _ in range(8)) for _ in range(20)]
            for text in some_texts(table.signs()) + drawn + [drawn_text(chance, table.signs(), 310)]:
                self.assertEqual(plain_cut(rows, text), plain_cut(table.rows(), text))

    def test_no_row_can_be_left_out(self):
        for table in tables(40):
            rows = trimmed(table).rows()
            for number, (left, right) in enumerate(rows):
                fewer = without_row(rows, number)
                self.assertLess(len(fewer), len(rows))
                Table(table.signs(), fewer)
                self.assertNotEqual(plain_cut(fewer, left + right), plain_cut(rows, left + right))


class NothingKept(unittest.TestCase):

    def test_tables_handed_in_stay(self):
        for table in tables(5):
            ahead = parts_of(table)
            for told in (beginning(table, 0), renamed(table, table.signs()[::-1]), trimmed(table),
                         led(table, Table("ba", [])), beginning(table, len(table.rows()))):
                told.rows().append("changed")
                told.pieces().clear()
                self.assertEqual(parts_of(table), ahead)
                self.assertNotIn("changed", told.rows())


if __name__ == "__main__":
    unittest.main()
