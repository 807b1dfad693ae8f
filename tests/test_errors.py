"""The thirteen refusals."""

import unittest

from joinranks import errors

BY_VALUES = {
    "NoTable": ("part", "number"),
    "NoGrammar": ("part", "number"),
    "NoCutting": ("kind", "place"),
    "NoSign": ("place",),
    "NoPiece": ("place",),
    "NoNumber": ("place",),
    "NoCount": ("number",),
    "NoText": ("row",),
}
BY_WORDS = ("NoPlace", "NoLead", "NoDeed", "NoRow", "NoName")
ALL = tuple(BY_VALUES) + BY_WORDS


def by_hand(name):
    """A refusal of that name, and the values of which it is made."""
    if name in BY_WORDS:
        return getattr(errors, name)("some words"), {}
    values = {value: ("word", 7)[number % 2] for number, value in enumerate(BY_VALUES[name])}
    return getattr(errors, name)(*values.values()), values


class Errors(unittest.TestCase):

    def test_there_are_thirteen(self):
        self.assertEqual(len(ALL), 13)

    def test_each_has_its_values(self):
        for name in ALL:
            refusal, values = by_hand(name)
            for value in values:
                self.assertEqual(getattr(refusal, value), values[value], name)

    def test_values_may_be_none(self):
        for name in BY_VALUES:
            refusal = getattr(errors, name)(*[None for _ in BY_VALUES[name]])
            for value in BY_VALUES[name]:
                self.assertIsNone(getattr(refusal, value), name)

    def test_values_stand_in_their_order(self):
        self.assertEqual((errors.NoTable("rows", 3).part, errors.NoTable("rows", 3).number), ("rows", 3))
        self.assertEqual((errors.NoGrammar("ends", 0).part, errors.NoGrammar("ends", 0).number), ("ends", 0))
        self.assertEqual((errors.NoCutting("alone", 2).kind, errors.NoCutting("alone", 2).place), ("alone", 2))

    def test_each_is_a_join_error_and_a_value_error(self):
        for name in ALL:
            refusal, _ = by_hand(name)
            self.assertIsInstance(refusal, errors.JoinError, name)
            self.assertIsInstance(refusal, ValueError, name)

    def test_none_is_under_another_one(self):
        for name in ALL:
            refusal, _ = by_hand(name)
            kinds = [other for other in ALL if isinstance(refusal, getattr(errors, other))]
            self.assertEqual(kinds, [name])

    def test_each_is_raised_and_caught(self):
        for name in ALL:
            refusal, _ = by_hand(name)
            with self.assertRaises(getattr(errors, name)):
                raise refusal

    def test_a_join_error_is_made_of_a_text(self):
        self.assertIsInstance(errors.JoinError("words"), ValueError)
        self.assertEqual(str(errors.JoinError("words")), "words")
        for name in BY_WORDS:
            self.assertEqual(str(getattr(errors, name)("words")), "words")


if __name__ == "__main__":
    unittest.main()
