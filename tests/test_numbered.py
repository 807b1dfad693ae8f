"""Point 34; points 2, 3 (i) and 15 of it."""

import random
import unittest

from joinranks.errors import NoCutting, NoPlace
from joinranks.follows import Follows
from joinranks.grammars import Grammar
from joinranks.numbered import cutting_of, how_many, number_of
from joinranks.tables import Table
from tests.plain_grammars import drawn_grammar, loops, plain_leads, plain_tells, some_grammars, told_texts
from tests.samples import ABC_WRONG, abc_table, drawn_text, no_places, plain_cut, refused, some_texts, tables


def numbers(table, row):
    """The numbers of a row's pieces."""
    return [table.pieces().index(piece) for piece in row]


def plain_order(table, told, many):
    """The cuttings of all texts of so many signs that a grammar tells, swept and sorted."""
    rows = [plain_cut(table.rows(), text) for text in told_texts(told, table.signs(), many)]
    return sorted(rows, key=lambda row: numbers(table, row))


def texts_counted(told, signs, many):
    """How many texts of so many of the signs a grammar tells, counted by states and not by pieces."""
    counts = {0: 1}
    for _ in range(many):
        fresh = {}
        for state, often in counts.items():
            for sign in signs:
                ahead = plain_leads(told, state, sign)
                if ahead is not None:
                    fresh[ahead] = fresh.get(ahead, 0) + often
        counts = fresh
    return sum(often for state, often in counts.items() if state in told[2])


class ByHand(unittest.TestCase):

    def setUp(self):
        self.table = Table("ba", [("a", "b"), ("b", "b")])
        self.follows = Follows(self.table)

    def test_all_texts_of_three_signs(self):
        grammar = Grammar(1, loops("ab"), [0])
        wanted = [["b", "a", "a"], ["b", "ab"], ["a", "a", "a"], ["a", "ab"], ["ab", "b"], ["ab", "a"],
                  ["bb", "b"], ["bb", "a"]]
        wanted.sort(key=lambda row: numbers(self.table, row))
        self.assertEqual(how_many(self.follows, grammar, 3), 8)
        self.assertEqual([cutting_of(self.follows, grammar, 3, number) for number in range(8)], wanted)
        self.assertEqual([number_of(self.follows, grammar, row) for row in wanted], list(range(8)))
        # The order is that of the numbers: b is numbered ahead of a, and both ahead of ab and bb.
        self.assertEqual(wanted[0], ["b", "a", "a"])
        self.assertEqual(wanted[-1], ["bb", "a"])

    def test_no_sign(self):
        for ends, many, number in (([0], 1, 0), ([1], 0, None), ([], 0, None)):
            grammar = Grammar(2, loops("ab", 2), ends)
            self.assertEqual(how_many(self.follows, grammar, 0), many)
            self.assertEqual(number_of(self.follows, grammar, []), number)
            if many:
                self.assertEqual(cutting_of(self.follows, grammar, 0, 0), [])
            refused(self, NoPlace, {}, cutting_of, self.follows, grammar, 0, many)

    def test_a_text_that_is_not_told(self):
        grammar = Grammar(3, [(0, "a", 1), (1, "b", 2), (2, "b", 2)], [2])
        self.assertEqual(number_of(self.follows, grammar, ["ab", "bb", "b"]), 0)
        for row in ([], ["a"], ["a", "a"], ["b"], ["ab", "a"], ["bb"]):
            self.assertIsNone(number_of(self.follows, grammar, row))

    def test_signs_that_are_none_of_the_tables(self):
        grammar = Grammar(1, loops("abZ~"), [0])
        self.assertEqual(how_many(self.follows, grammar, 5), 32)


class Sought(unittest.TestCase):

    def test_all_texts_of_some_few_signs(self):
        chance = random.Random(34)
        for table in tables(8):
            follows = Follows(table)
            for told in some_grammars(table.signs()):
                grammar = Grammar(*told)
                for many in range({1: 12, 2: 6, 3: 4}.get(len(table.signs()), 3) + 1):
                    rows = plain_order(table, told, many)
                    self.assertEqual(how_many(follows, grammar, many), len(rows))
                    self.assertEqual(len(rows), texts_counted(told, table.signs(), many))
                    for number in sorted(chance.sample(range(len(rows)), min(6, len(rows)))):
                        self.assertEqual(cutting_of(follows, grammar, many, number), rows[number])
                        self.assertEqual(number_of(follows, grammar, rows[number]), number)

    def test_each_number(self):
        for table in tables(3):
            if len(table.signs()) > 3:
                continue
            follows = Follows(table)
            for told in some_grammars(table.signs(), 1)[-4:]:
                grammar = Grammar(*told)
                rows = plain_order(table, told, 4)
                self.assertEqual([cutting_of(follows, grammar, 4, number) for number in range(len(rows))], rows)
                self.assertEqual([number_of(follows, grammar, row) for row in rows], list(range(len(rows))))

    def test_texts_that_are_told_and_others(self):
        for table in tables(6):
            follows = Follows(table)
            for told in some_grammars(table.signs()):
                grammar = Grammar(*told)
                for text in [text for text in some_texts(table.signs(), 10) if len(text) <= 40]:
                    row = plain_cut(table.rows(), text)
                    number = number_of(follows, grammar, row)
                    if plain_tells(told, text):
                        self.assertIs(number.__class__, int)
                        self.assertEqual(cutting_of(follows, grammar, len(text), number), row)
                    else:
                        self.assertIsNone(number)


class VeryMany(unittest.TestCase):

    def check_numbers(self, table, told, signs, chance):
        """The first, the last and some drawn numbers of so many signs, with those next to them."""
        follows, grammar = Follows(table), Grammar(*told)
        many = texts_counted(told, table.signs(), signs)
        self.assertEqual(how_many(follows, grammar, signs), many)
        drawn = [chance.randrange(many) for _ in range(3)] if many else []
        for number in [number for number in [0, 1, many - 2, many - 1] + drawn if 0 <= number < many]:
            row = cutting_of(follows, grammar, signs, number)
            text = "".join(row)
            self.assertEqual((len(text), plain_cut(table.rows(), text)), (signs, row))
            self.assertTrue(plain_tells(told, text))
            self.assertEqual(number_of(follows, grammar, row), number)
            if number + 1 < many:
                behind = cutting_of(follows, grammar, signs, number + 1)
                self.assertLess(numbers(table, row), numbers(table, behind))
        for number in (-1, many, many + 1):
            refused(self, NoPlace, {}, cutting_of, follows, grammar, signs, number)
        return many

    def test_forty_signs(self):
        chance = random.Random(40)
        seen = []
        for table in tables(12):
            for told in [(1, loops(table.signs()), [0]), (4, loops(table.signs(), 4), [0, 3])] + [
                    drawn_grammar(chance, table.signs(), many) for many in (2, 4)]:
                seen.append(self.check_numbers(table, told, 40, chance))
        self.assertGreater(max(seen), 10 ** 20)

    def test_twelve_signs_and_four_states(self):
        chance = random.Random(12)
        signs = "lkjihgfedcba"
        table = Table(signs, [(left, right) for left in "abcd" for right in "efghij"])
        many = self.check_numbers(table, (4, loops(signs, 4), [0, 1]), 40, chance)
        self.assertEqual(many, 12 ** 40)

    def test_some_more_signs_than_forty(self):
        self.check_numbers(abc_table(), (2, loops("cab", 2), [1]), 43, random.Random(43))

    def test_drawn_texts_of_forty_signs(self):
        chance = random.Random(4040)
        for table in tables(5):
            follows, grammar = Follows(table), Grammar(1, loops(table.signs()), [0])
            for _ in range(5):
                row = plain_cut(table.rows(), drawn_text(chance, table.signs(), 40))
                self.assertEqual(cutting_of(follows, grammar, 40, number_of(follows, grammar, row)), row)


class WhatIsRefused(unittest.TestCase):

    def test_what_is_no_number(self):
        follows, grammar = Follows(abc_table()), Grammar(1, loops("ab"), [0])
        self.assertEqual(cutting_of(follows, grammar, 2, 3), ["ab"])
        for thing in no_places(3):
            refused(self, NoPlace, {}, cutting_of, follows, grammar, 2, thing)
        empty = Grammar(1, [], [])
        for thing in no_places(-1) + [0]:
            refused(self, NoPlace, {}, cutting_of, follows, empty, 2, thing)
            refused(self, NoPlace, {}, cutting_of, follows, empty, 0, thing)

    def test_what_is_no_cutting(self):
        follows, grammar = Follows(abc_table()), Grammar(1, [(0, "c", 0)], [0])
        for (kind, place), thing in ABC_WRONG:
            refused(self, NoCutting, {"kind": kind, "place": place}, number_of, follows, grammar, thing)


class NothingKept(unittest.TestCase):

    def test_lists_handed_in_and_told(self):
        follows, grammar = Follows(abc_table()), Grammar(2, loops("abc", 2), [1])
        row = ["ab", "c"]
        number = number_of(follows, grammar, row)
        self.assertEqual(row, ["ab", "c"])
        self.assertEqual(number, number_of(follows, grammar, row))
        told = cutting_of(follows, grammar, 3, number)
        self.assertEqual(told, row)
        told.append("changed")
        told[0] = "changed"
        self.assertEqual(cutting_of(follows, grammar, 3, number), row)


if __name__ == "__main__":
    unittest.main()
