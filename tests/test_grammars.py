"""Point 32, point 2 of it."""

import unittest

from joinranks.errors import NoGrammar, NoPlace, NoSign
from joinranks.grammars import Grammar
from tests.plain_grammars import loops, plain_leads, plain_tells, some_grammars
from tests.samples import EqualToAll, no_places, no_texts, refused, strange_things, texts

SIGNS_48 = "".join(chr(code) for code in range(38, 38 + 48))


def no_states(many):
    """What is no state of so many, fit to be told apart from states in a tuple."""
    return [-1, many, many + 1, 10 ** 59, True, False, None, 0.0, 1.0, "0", "a", (), [], [0], EqualToAll()]


class Made(unittest.TestCase):

    def test_told_as_handed_in(self):
        for signs in ("a", "ba", "abc"):
            for many, ways, ends in some_grammars(signs):
                grammar = Grammar(many, ways, ends)
                self.assertEqual((grammar.many(), grammar.ways(), grammar.ends()), (many, ways, ends))
                self.assertEqual([way.__class__ for way in grammar.ways()], [tuple] * len(ways))

    def test_the_edges_are_let_by(self):
        self.assertEqual(Grammar(1, [], []).ends(), [])
        self.assertEqual(Grammar(4, [(3, " ", 0), (0, "~", 3)], [3, 0, 2, 1]).ends(), [3, 0, 2, 1])
        ways = [(0, sign, 0) for sign in SIGNS_48]
        self.assertEqual(len(Grammar(1, ways, [0]).ways()), 48)
        # The same sign from another state, and another sign to the same one.
        Grammar(2, [(0, "a", 1), (1, "a", 1), (0, "b", 1)], [1])


class NoGrammars(unittest.TestCase):

    def no_grammar(self, part, number, *told):
        refused(self, NoGrammar, {"part": part, "number": number}, Grammar, *told)

    def test_many(self):
        for thing in no_places(4) + [0, 5]:
            self.no_grammar("many", None, thing, [], [])
            self.no_grammar("many", None, thing, None, None)

    def test_ways_that_are_no_list_or_too_many(self):
        for thing in strange_things():
            if thing.__class__ != list:
                self.no_grammar("ways", None, 1, thing, [])
                self.no_grammar("ways", None, 1, thing, None)
        self.no_grammar("ways", None, 1, [(0, sign, 0) for sign in SIGNS_48 + "!"], [0])
        self.no_grammar("ways", None, 1, [None] * 49, [0])
        self.no_grammar("ways", 0, 1, [None] * 48, [0])

    def test_the_first_wrong_way(self):
        good = [(0, "a", 1), (1, "a", 0)]
        for many in (2, 3):
            wrong = [thing for thing in strange_things() if thing.__class__ != tuple]
            wrong += [(), (0,), (0, "b"), (0, "b", 1, 1), [0, "b", 1], ("b", 0, 1), (0, 1, "b")]
            wrong += [(state, "b", 1) for state in no_states(many)] + [(1, "b", state) for state in no_states(many)]
            wrong += [(0, sign, 1) for sign in ("", "bb", chr(37), "\n", "\t", "\x7f", "\xe9", None, 0, b"b", ["b"],
                                                ("b",), EqualToAll())]
            for thing in wrong:
                self.no_grammar("ways", 0, many, [thing], [])
                self.no_grammar("ways", 2, many, good + [thing, None], None)

    def test_two_ways_with_the_same_state_ahead_and_the_same_sign(self):
        self.no_grammar("ways", 1, 2, [(0, "a", 1), (0, "a", 0)], [])
        self.no_grammar("ways", 3, 2, [(0, "a", 1), (1, "a", 1), (0, "b", 1), (0, "a", 1), (0, "b", 1)], [])

    def test_ends_that_are_no_list(self):
        for thing in strange_things():
            if thing.__class__ != list:
                self.no_grammar("ends", None, 2, [(0, "a", 1)], thing)

    def test_the_first_wrong_end(self):
        for thing in no_states(3):
            self.no_grammar("ends", 0, 3, [], [thing])
            self.no_grammar("ends", 2, 3, [], [2, 0, thing, thing])

    def test_two_ends_alike(self):
        self.no_grammar("ends", 1, 1, [], [0, 0])
        self.no_grammar("ends", 2, 3, [], [2, 0, 2, 0])
        self.no_grammar("ends", 4, 4, [], [2, 0, 1, 3, 2])

    def test_which_goes_first(self):
        self.no_grammar("ways", 0, 2, [(0, "a", 2)], [5])
        self.no_grammar("many", None, 5, [(0, "a", 9)], [9])
        self.no_grammar("ends", 0, 2, [(0, "a", 1)], [2])


class Leading(unittest.TestCase):

    def test_by_hand(self):
        grammar = Grammar(3, [(0, "a", 1), (1, "b", 2), (2, "a", 0), (1, " ", 1)], [2, 0])
        for state, text, wanted in ((0, "", 0), (2, "", 2), (0, "a", 1), (0, "ab", 2), (0, "a  b", 2), (0, "b", None),
                                    (1, "bab", None), (1, "baa", 1), (0, "abx", None), (0, "aXb", None)):
            self.assertEqual(grammar.leads(state, text), wanted)
        for text, wanted in (("", True), ("a", False), ("ab", True), ("aba", True), ("abab", False), ("abx", False),
                             ("a b", True), ("\n", False), ("b", False)):
            self.assertIs(grammar.tells(text), wanted)

    def test_sought(self):
        for signs in ("a", "ba", "abc"):
            for told in some_grammars(signs, 8):
                grammar = Grammar(*told)
                for text in texts(signs + "Z", 4):
                    self.assertIs(grammar.tells(text), plain_tells(told, text))
                    for state in range(told[0]):
                        self.assertEqual(grammar.leads(state, text), plain_leads(told, state, text))

    def test_long_texts(self):
        grammar = Grammar(4, loops("ab", 4), [2])
        self.assertEqual(grammar.leads(1, "ab" * 155), 3)
        self.assertIs(grammar.tells("ab" * 155), True)
        self.assertIs(grammar.tells("ab" * 154), False)

    def test_what_is_no_state(self):
        for told in ((1, [], []), (3, loops("a"), [0])):
            for thing in no_places(told[0] - 1):
                refused(self, NoPlace, {}, Grammar(*told).leads, thing, "")
                refused(self, NoPlace, {}, Grammar(*told).leads, thing, None)

    def test_what_is_no_text(self):
        for thing in no_texts():
            refused(self, NoSign, {"place": None}, Grammar(2, loops("a", 2), [1]).leads, 1, thing)


class NothingKept(unittest.TestCase):

    def test_lists_handed_in_and_told(self):
        ways, ends = [(0, "a", 1), (1, "b", 0)], [1]
        grammar = Grammar(2, ways, ends)
        ways.append((0, "b", 0))
        ways[0] = (0, "a", 0)
        ends.append(0)
        for told in (grammar.ways(), grammar.ends()):
            told.append("changed")
            told[0] = "changed"
        self.assertEqual((grammar.ways(), grammar.ends()), ([(0, "a", 1), (1, "b", 0)], [1]))
        self.assertEqual([grammar.tells(text) for text in ("", "a", "b", "ab", "aba")],
                         [False, True, False, False, True])

    def test_nothing_handed_in_is_changed(self):
        ways, ends = [(0, "a", 1), (1, "b", 0)], [1, 0]
        Grammar(2, ways, ends).tells("ab")
        self.assertEqual((ways, ends), ([(0, "a", 1), (1, "b", 0)], [1, 0]))


if __name__ == "__main__":
    unittest.main()
