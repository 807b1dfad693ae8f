"""Splittings and heights let by: point 35, points 2 and 3 (j) of it."""

import itertools
import random
import unittest

from joinranks.errors import NoSign
from joinranks.fewest import heights
from joinranks.splitting import is_splitting, lets_heights
from joinranks.tables import Table
from tests.plain_splitting import all_splittings, plain_lets
from tests.samples import EqualToAll, abc_table, no_texts, refused, some_texts, strange_things, tables, texts


class Splittings(unittest.TestCase):

    def test_by_hand(self):
        table = abc_table()
        for text, thing in (("", []), ("abc", ["a", "b", "c"]), ("abc", ["ab", "c"]), ("abc", ["a", "bc"]),
                            ("abc", ["abc"]), ("abcabc", ["abc", "a", "bc"])):
            self.assertIs(is_splitting(table, text, thing), True)
        for text, thing in (("", [""]), ("a", []), ("a", ["b"]), ("a", ["a", "a"]), ("aa", ["aa"]), ("ab", ["ab", ""]),
                            ("ab", ["b", "a"]), ("ab", [["ab"]]), ("ab", ("ab",)), ("ab", "ab"), ("ab", ["a", None]),
                            ("ca", ["ca"]), ("a", [EqualToAll()]), ("", ()), ("", None), ("", {}), ("", "")):
            self.assertIs(is_splitting(table, text, thing), False)

    def test_anything(self):
        for thing in strange_things():
            self.assertIs(is_splitting(abc_table(), "a", thing), thing.__class__ == list and thing == ["a"]
                          and thing[0].__class__ == str)
            self.assertIs(is_splitting(abc_table(), "", thing), thing.__class__ == list and len(thing) == 0)

    def test_all_rows_of_few_pieces(self):
        for table in tables(5):
            rows = [list(row) for many in range(4) for row in itertools.product(table.pieces()[:8], repeat=many)]
            for text in texts(table.signs(), 2) + table.pieces()[-2:]:
                wanted = all_splittings(table.pieces(), text)
                for row in rows[:150] + wanted:
                    self.assertIs(is_splitting(table, text, row), row in wanted)

    def test_texts_go_first(self):
        for thing in no_texts():
            refused(self, NoSign, {"place": None}, is_splitting, abc_table(), thing, None)
            refused(self, NoSign, {"place": None}, lets_heights, abc_table(), thing, None)
        for text, place in (("d", 0), ("abd", 2), ("a\n", 1)):
            for thing in (None, ["a"], [text], [0] * (len(text) + 1)):
                refused(self, NoSign, {"place": place}, is_splitting, abc_table(), text, thing)
                refused(self, NoSign, {"place": place}, lets_heights, abc_table(), text, thing)


class Heights(unittest.TestCase):

    def test_by_hand(self):
        table = abc_table()
        for text, thing in (("", [0]), ("a", [0, 1]), ("a", [0, 0]), ("a", [0, -5]), ("ab", [0, 1, 1]),
                            ("ab", [0, 0, 1]), ("abc", [0, 1, 1, 1]), ("ca", [0, 1, 2]), ("abc", [0, 0, 0, 0]),
                            ("a", [0, -10 ** 59])):
            self.assertIs(lets_heights(table, text, thing), True, (text, thing))
        for text, thing in (("", []), ("", [0, 0]), ("", [1]), ("", [-1]), ("a", [0, 2]), ("a", [1, 1]), ("a", [-1, 0]),
                            ("ab", [0, 1, 2]), ("abc", [0, 1, 1, 2]), ("abc", [0, -1, 1, 1]), ("a", [0]),
                            ("a", [0, 1, 1]), ("", [False]), ("a", [0, True]), ("a", [False, 1]), ("a", [0, 1.0]),
                            ("a", [0.0, 1]), ("a", (0, 1)), ("a", None), ("a", "01"), ("a", [0, "1"]),
                            ("a", [0, None]), ("a", [[0], [1]]), ("a", [0, EqualToAll()]), ("", [EqualToAll()]),
                            ("a", {0: 0, 1: 1}), ("ca", [0, 10 ** 59, 2])):
            self.assertIs(lets_heights(table, text, thing), False, (text, thing))

    def test_anything(self):
        for thing in strange_things():
            self.assertIs(lets_heights(abc_table(), "", thing), False)
            self.assertIs(lets_heights(abc_table(), "a", thing), False)

    def test_an_idle_piece_counts_too(self):
        self.assertIs(lets_heights(abc_table(), "abc", [0, 1, 1, 2]), False)
        self.assertIs(lets_heights(Table("abc", [("a", "b"), ("b", "c")]), "abc", [0, 1, 1, 2]), True)

    def test_whatever_is_let_by(self):
        chance = random.Random(35)
        seen = []
        for table in tables(8):
            for text in [text for text in some_texts(table.signs(), 12) if len(text) <= 7]:
                few = min(len(row) for row in all_splittings(table.pieces(), text))
                for _ in range(12):
                    told = heights(table, text)
                    for _ in range(chance.choice([0, 1, 1, 2, 4])):
                        told[chance.randrange(len(told))] += chance.choice([-2, -1, -1, 1])
                    wanted = plain_lets(table.pieces(), text, told)
                    self.assertIs(lets_heights(table, text, told), wanted)
                    self.assertIs(lets_heights(table, text, told + [0]), False)
                    self.assertIs(lets_heights(table, text, told[:-1]), False)
                    seen.append(wanted)
                    if wanted:
                        self.assertLessEqual(told[-1], few)
        self.assertGreater(seen.count(True), 200)
        self.assertGreater(seen.count(False), 200)

    def test_all_lists_of_few_numbers(self):
        for table in tables(4):
            for text in texts(table.signs(), 2):
                for told in itertools.product(range(-1, 3), repeat=len(text) + 1):
                    self.assertIs(lets_heights(table, text, list(told)), plain_lets(table.pieces(), text, told))

    def test_310_signs(self):
        for table in tables(0):
            text = (table.pieces()[-1] * 310)[:310]
            told = heights(table, text)
            self.assertIs(lets_heights(table, text, told), True)
            told[-1] += 1
            self.assertIs(lets_heights(table, text, told), False)

    def test_nothing_handed_in_is_changed(self):
        told, row = [0, 1, 1, 1], ["ab", "c"]
        lets_heights(abc_table(), "abc", told)
        is_splitting(abc_table(), "abc", row)
        self.assertEqual((told, row), ([0, 1, 1, 1], ["ab", "c"]))


if __name__ == "__main__":
    unittest.main()
