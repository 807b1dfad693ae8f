"""Point 33; points 2, 3 (i) and 15 of it."""

import itertools
import unittest

from joinranks.errors import NoCutting
from joinranks.follows import Follows
from joinranks.grammars import Grammar
from joinranks.tables import Table
from joinranks.walking import may_end, next_pieces, way_on
from tests.plain_grammars import loops, plain_leads, plain_tells, some_grammars, told_texts
from tests.samples import ABC_WRONG, abc_table, plain_cut, refused, some_texts, tables


class ByHand(unittest.TestCase):

    def setUp(self):
        # abc is idle; b and bc may not follow a, nor c follow b.
        self.follows = Follows(abc_table())

    def test_all_texts(self):
        grammar = Grammar(1, loops("abc"), [0])
        for row, wanted in (([], ["a", "b", "c", "ab", "bc"]), (["a"], ["a", "c", "ab"]),
                            (["b"], ["a", "b", "ab", "bc"]), (["a", "ab"], ["a", "b", "c", "ab", "bc"])):
            self.assertEqual(next_pieces(self.follows, grammar, row), wanted)
            self.assertIs(may_end(self.follows, grammar, row), True)
            self.assertEqual(way_on(self.follows, grammar, row), [])

    def test_just_one_text(self):
        grammar = Grammar(4, [(0, "a", 1), (1, "b", 2), (2, "c", 3)], [3])
        self.assertEqual(next_pieces(self.follows, grammar, []), ["ab"])
        self.assertEqual(way_on(self.follows, grammar, []), ["ab", "c"])
        self.assertEqual(next_pieces(self.follows, grammar, ["ab"]), ["c"])
        self.assertEqual(way_on(self.follows, grammar, ["ab"]), ["c"])
        # The text a begins abc, but the cutting of abc does not begin with a.
        self.assertEqual(next_pieces(self.follows, grammar, ["a"]), [])
        self.assertIsNone(way_on(self.follows, grammar, ["a"]))
        self.assertEqual(next_pieces(self.follows, grammar, ["ab", "c"]), [])
        self.assertEqual(way_on(self.follows, grammar, ["ab", "c"]), [])
        self.assertEqual([may_end(self.follows, grammar, row) for row in ([], ["a"], ["ab"], ["ab", "c"])],
                         [False, False, False, True])

    def test_fewer_pieces_though_more_signs(self):
        # Both aa, of two pieces, and abab, of one, lead to the end.
        table = Table("ab", [("a", "b"), ("ab", "ab")])
        grammar = Grammar(4, [(0, "a", 1), (1, "a", 3), (1, "b", 2), (2, "a", 2), (2, "b", 3)], [3])
        self.assertEqual(way_on(Follows(table), grammar, []), ["abab"])

    def test_endlessly_many_texts(self):
        grammar = Grammar(2, [(0, "c", 1), (1, "c", 0)], [1])
        self.assertEqual(next_pieces(self.follows, grammar, ["c"] * 300), ["c"])
        self.assertEqual(way_on(self.follows, grammar, ["c"] * 300), ["c"])
        self.assertEqual(way_on(self.follows, grammar, ["c"] * 299), [])

    def test_a_way_that_never_ends(self):
        grammar = Grammar(3, [(0, "a", 1), (1, "a", 1), (0, "c", 2)], [2])
        self.assertEqual(next_pieces(self.follows, grammar, []), ["c"])
        self.assertEqual(next_pieces(self.follows, grammar, ["a"]), [])
        self.assertIsNone(way_on(self.follows, grammar, ["a", "a"]))

    def test_a_text_that_leads_nowhere(self):
        grammar = Grammar(1, [(0, "c", 0)], [0])
        for row in (["a"], ["c", "bc"], ["bc", "c"]):
            self.assertEqual(next_pieces(self.follows, grammar, row), [])
            self.assertIs(may_end(self.follows, grammar, row), False)
            self.assertIsNone(way_on(self.follows, grammar, row))

    def test_without_ways_and_without_ends(self):
        for ways, ends, end, way in (([], [0], True, []), ([], [], False, None), (loops("abc"), [], False, None)):
            grammar = Grammar(1, ways, ends)
            self.assertEqual(next_pieces(self.follows, grammar, []), [])
            self.assertIs(may_end(self.follows, grammar, []), end)
            self.assertEqual(way_on(self.follows, grammar, []), way)

    def test_signs_that_are_none_of_the_tables(self):
        grammar = Grammar(2, [(0, "Z", 1), (0, "a", 0), (1, "b", 1)], [1])
        self.assertEqual(next_pieces(self.follows, grammar, []), [])
        self.assertIsNone(way_on(self.follows, grammar, ["a"]))


def in_order(table, pieces):
    """Pieces in the order of their numbers."""
    return sorted(set(pieces), key=table.pieces().index)


class Sought(unittest.TestCase):

    def check_way(self, table, told, row, way):
        """The way leads to a text that the grammar tells, cut as it is told."""
        text = "".join(row + way)
        self.assertTrue(plain_tells(told, text))
        self.assertEqual(plain_cut(table.rows(), text), row + way)

    def check_row(self, table, told, row, seen):
        """One cutting held against the rows that were seen behind it in texts of some few signs."""
        follows, grammar = Follows(table), Grammar(*told)
        pieces = next_pieces(follows, grammar, row)
        self.assertEqual(pieces, in_order(table, pieces))
        self.assertLessEqual({behind[0] for behind in seen if behind}, set(pieces))
        for piece in pieces:
            self.check_way(table, told, row + [piece], way_on(follows, grammar, row + [piece]))
        self.assertIs(may_end(follows, grammar, row), plain_tells(told, "".join(row)))
        way = way_on(follows, grammar, row)
        if way is None:
            self.assertEqual((pieces, seen), ([], []))
            return
        self.check_way(table, told, row, way)
        self.assertEqual(way == [], plain_tells(told, "".join(row)))
        self.assertLessEqual(len(way), min([len(behind) for behind in seen], default=99))
        self.check_no_shorter(table, told, row, len(way))

    def check_no_shorter(self, table, told, row, many):
        """No row of fewer pieces is a way, whichever they are, as far as they can be gone through."""
        pieces = [piece for piece in table.pieces() if plain_cut(table.rows(), piece) == [piece]]
        for fewer in range(min(many, 3 if len(pieces) < 8 else 2)):
            for behind in itertools.product(pieces, repeat=fewer):
                text = "".join(row) + "".join(behind)
                if plain_tells(told, text):
                    self.assertNotEqual(plain_cut(table.rows(), text), row + list(behind))

    def test_all_texts_of_some_few_signs(self):
        for table in tables(6):
            few = {1: 9, 2: 5, 3: 3}.get(len(table.signs()), 2)
            for told in some_grammars(table.signs()):
                seen = {(): []}
                for many in range(few + 1):
                    for text in told_texts(told, table.signs(), many):
                        row = plain_cut(table.rows(), text)
                        for at in range(len(row) + 1):
                            seen.setdefault(tuple(row[:at]), []).append(row[at:])
                for row in sorted(seen)[:12]:
                    self.check_row(table, told, list(row), seen[row])

    def test_all_hangs_on_the_state_and_the_last_piece(self):
        for table in tables(6):
            follows = Follows(table)
            for told in some_grammars(table.signs()):
                grammar = Grammar(*told)
                known = {}
                for text in some_texts(table.signs(), 12):
                    row = plain_cut(table.rows(), text)
                    way = way_on(follows, grammar, row)
                    answer = next_pieces(follows, grammar, row), None if way is None else len(way)
                    spot = plain_leads(told, 0, text), row[-1] if row else None
                    self.assertEqual(known.setdefault(spot, answer), answer)

    def test_next_pieces_by_all_rows_of_few_pieces(self):
        # With loops over all signs each state leads on, so what comes next is told by what may follow alone.
        for table in tables(6):
            follows = Follows(table)
            for many in (1, 2, 4):
                grammar = Grammar(many, loops(table.signs(), many), [many - 1])
                for text in some_texts(table.signs(), 12):
                    row = plain_cut(table.rows(), text)
                    wanted = [piece for piece in table.pieces()
                              if plain_cut(table.rows(), text + piece) == row + [piece]]
                    told = next_pieces(follows, grammar, row)
                    self.assertLessEqual(set(told), set(wanted))
                    if many == 1:
                        self.assertEqual(told, wanted)


class WhatIsRefused(unittest.TestCase):

    def test_what_is_no_cutting(self):
        follows, grammar = Follows(abc_table()), Grammar(1, [(0, "c", 0)], [0])
        for (kind, place), thing in ABC_WRONG:
            for call in (next_pieces, may_end, way_on):
                refused(self, NoCutting, {"kind": kind, "place": place}, call, follows, grammar, thing)


class NothingKept(unittest.TestCase):

    def test_rows_handed_in_stay_and_told_lists_are_the_askers_own(self):
        follows, grammar = Follows(abc_table()), Grammar(2, loops("abc", 2), [1])
        for row in ([], ["ab"], ["ab", "c"]):
            for call in (next_pieces, way_on):
                ahead = list(row)
                told = call(follows, grammar, row)
                self.assertEqual(row, ahead)
                kept = list(told)
                told.append("changed")
                told[0] = "changed"
                self.assertEqual(call(follows, grammar, row), kept)
                self.assertEqual(row, ahead)

    def test_what_was_asked_ahead_does_not_matter(self):
        follows = Follows(abc_table())
        rows = [[], ["a"], ["b"], ["ab", "c"], ["c", "bc"]]
        grammars = [Grammar(*told) for told in some_grammars("abc")]

        def asked(order):
            return {(at, tuple(row)): (next_pieces(follows, grammars[at], row), way_on(follows, grammars[at], row))
                    for at, row in order}

        order = list(itertools.product(range(len(grammars)), rows))
        self.assertEqual(asked(order), asked(order[::-1]))


if __name__ == "__main__":
    unittest.main()
