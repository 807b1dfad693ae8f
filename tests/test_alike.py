"""Two tables held beside one another: point 31, point 3 (g) of it."""

import random
import unittest

from joinranks.alike import unlike_text
from joinranks.errors import NoLead
from joinranks.tables import Table
from joinranks.tableworks import beginning, trimmed
from tests.samples import abc_table, chance_rows, drawn_text, plain_cut, refused, tables, texts


def swapped(chance, table):
    """A table with the same signs in another order, and two neighbour rows swapped, where that makes a table."""
    signs = "".join(chance.sample(table.signs(), len(table.signs())))
    rows = table.rows()
    if len(rows) > 1:
        at = chance.randrange(len(rows) - 1)
        one, other = rows[at:at + 2]
        if one[0] + one[1] not in other:
            rows[at:at + 2] = [other, one]
    return Table(signs, rows)


def longer(chance, table):
    """A table with up to two rows more behind."""
    rows = table.rows()
    for _ in range(8):
        pieces = list(table.signs()) + [left + right for left, right in rows]
        left, right = chance.choice(pieces), chance.choice(pieces)
        if len(rows) < min(24, len(table.rows()) + 2) and len(left + right) <= 16 and left + right not in pieces:
            rows.append((left, right))
    return Table(table.signs(), rows)


class ByHand(unittest.TestCase):

    def test_alike(self):
        for one, other in (
                (Table("a", []), Table("a", [])),
                (Table("abcd", [("a", "b"), ("c", "d")]), Table("dcba", [("c", "d"), ("a", "b")])),
                (abc_table(), Table("cab", [("a", "b"), ("b", "c")])),
                (Table("a", [("a", "a"), ("a", "aa")]), Table("a", [("a", "a")])),
        ):
            self.assertIsNone(unlike_text(one, other))
            self.assertIsNone(unlike_text(other, one))

    def test_not_alike(self):
        for one, other, wanted in (
                (Table("a", []), Table("a", [("a", "a")]), "aa"),
                (Table("ab", [("a", "b")]), Table("ba", [("a", "b"), ("ab", "ab")]), "abab"),
        ):
            self.assertEqual(unlike_text(one, other), wanted)
            self.assertEqual(unlike_text(other, one), wanted)
        # The same pieces stand alone by both, but not the same ones may follow one another.
        one, other = Table("abc", [("a", "b"), ("b", "c")]), Table("abc", [("b", "c"), ("a", "b")])
        self.assertIn(unlike_text(one, other), ("abc", "abbc"))
        self.assertNotEqual(plain_cut(one.rows(), "abc"), plain_cut(other.rows(), "abc"))

    def test_the_same_piece_made_in_two_ways(self):
        one = Table("ab", [("a", "a"), ("a", "b"), ("aa", "b")])
        other = Table("ab", [("a", "b"), ("a", "ab"), ("a", "a")])
        text = unlike_text(one, other)
        self.assertNotEqual(plain_cut(one.rows(), text), plain_cut(other.rows(), text))

    def test_a_text_of_16_signs(self):
        rows = [("a" * many, "a" * many) for many in (1, 2, 4)]
        one = Table("ab", rows + [("a" * 8, "a" * 8)])
        text = unlike_text(one, Table("ab", rows))
        self.assertEqual(text, "a" * 16)

    def test_other_signs(self):
        for signs in ("ab", "abcd", "abd", "c", "ABC", "ab "):
            refused(self, NoLead, {}, unlike_text, abc_table(), Table(signs, []))
            refused(self, NoLead, {}, unlike_text, Table(signs, []), abc_table())
        for signs in ("abc", "cab", "bca", "cba"):
            self.assertIsNone(unlike_text(abc_table(), Table(signs, abc_table().rows())))


class Sought(unittest.TestCase):

    def held(self, one, other, chance):
        """Held against the plain sweeping; told is whether both are alike."""
        text = unlike_text(one, other)
        if text is not None:
            self.assertIs(text.__class__, str)
            self.assertTrue(1 <= len(text) <= 32 and set(text) <= set(one.signs()), text)
            self.assertNotEqual(plain_cut(one.rows(), text), plain_cut(other.rows(), text))
            return False
        pieces = sorted(set(one.pieces() + other.pieces()))
        few = {1: 24, 2: 8, 3: 5, 4: 4}.get(len(one.signs()), 2)
        tried = texts(one.signs(), few) + [left + right for left in pieces for right in pieces]
        tried += [drawn_text(chance, one.signs(), many) for many in (20, 50, 310)]
        for text in tried:
            self.assertEqual(plain_cut(one.rows(), text), plain_cut(other.rows(), text))
        return True

    def test_tables_that_are_nearly_the_same(self):
        chance = random.Random(31)
        seen = []
        for table in tables(50):
            for other in (swapped(chance, table), longer(chance, table),
                          beginning(table, max(0, len(table.rows()) - 1))):
                seen.append(self.held(table, other, chance))
                self.assertEqual(self.held(other, table, chance), seen[-1])
        self.assertGreater(seen.count(True), 20)
        self.assertGreater(seen.count(False), 20)

    def test_a_trimmed_table_and_the_whole_one(self):
        for table in tables(50):
            self.assertIsNone(unlike_text(table, trimmed(table)))
            self.assertIsNone(unlike_text(trimmed(table), table))
            self.assertIsNone(unlike_text(table, table))

    def test_drawn_pairs(self):
        chance = random.Random(3131)
        seen = []
        for _ in range(300):
            signs = chance.choice(["a", "ab", "ab", "abc"])
            one, other = [Table(signs, chance_rows(chance, signs, chance.choice([1, 2, 3]))) for _ in range(2)]
            seen.append(self.held(one, other, chance))
        self.assertGreater(seen.count(True), 20)
        self.assertGreater(seen.count(False), 20)


if __name__ == "__main__":
    unittest.main()
