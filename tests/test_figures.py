"""Point 4, and what a whole number is by point 2."""

import unittest

from joinranks.errors import NoText
from joinranks.figures import is_whole, read_number, show_number
from tests.samples import refused, strange_things


class WholeNumbers(unittest.TestCase):

    def test_ints_are_whole(self):
        for number in (0, 1, -1, 2, 10, -10 ** 59, 10 ** 59):
            self.assertIs(is_whole(number), True)

    def test_truths_are_not(self):
        self.assertIs(is_whole(True), False)
        self.assertIs(is_whole(False), False)

    def test_all_else_is_not(self):
        for thing in strange_things():
            if thing.__class__ != int:
                self.assertIs(is_whole(thing), False, repr(thing))


class Figures(unittest.TestCase):

    def test_shown(self):
        for number, text in ((0, "0"), (7, "7"), (10, "10"), (1000, "1000"), (10 ** 59, "1" + "0" * 59)):
            self.assertEqual(show_number(number), text)

    def test_read(self):
        for text, number in (("0", 0), ("9", 9), ("10", 10), ("408", 408), ("1234567890", 1234567890)):
            told = read_number(text)
            self.assertEqual(told, number)
            self.assertIs(told.__class__, int)

    def test_what_is_shown_is_read_back(self):
        for number in list(range(1200)) + [10 ** many + 7 for many in range(1, 60)]:
            self.assertEqual(read_number(show_number(number)), number)

    def test_sixty_figures_and_one_more(self):
        self.assertEqual(read_number("9" * 60), 10 ** 60 - 1)
        self.assertEqual(read_number("1" + "0" * 59), 10 ** 59)
        refused(self, NoText, {"row": 0}, read_number, "9" * 61)
        refused(self, NoText, {"row": 0}, read_number, "1" + "0" * 60)

    def test_a_nought_ahead(self):
        for text in ("00", "01", "007", "0" * 60, "0" * 61):
            refused(self, NoText, {"row": 0}, read_number, text)

    def test_other_signs_among_the_figures(self):
        for text in ("", " ", "-", "+", "-1", "+1", "-0", " 1", "1 ", "1 2", "1_000", "1.0", "1,0", "1e3", "0x1",
                     "a", "1a", "a1", "1\n", "\n1", "\t1", "1\t", "\u0661", "\u00b2", "\uff11"):
            refused(self, NoText, {"row": 0}, read_number, text)

    def test_what_is_no_text(self):
        for thing in strange_things():
            if thing.__class__ != str:
                refused(self, NoText, {"row": 0}, read_number, thing)


if __name__ == "__main__":
    unittest.main()
