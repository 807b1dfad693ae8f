"""Point 22, points 2 and 3 (a) and (d) of it."""

import itertools
import os
import random
import unittest

from joinranks.errors import NoSign
from joinranks.reaches import reach
from joinranks.streams import Stream
from joinranks.tables import Table
from tests.samples import abc_table, drawn_text, ends_of, no_texts, plain_cut, refused, some_texts, tables, texts


def all_told(stream):
    """All that a stream tells, but for its twin."""
    return stream.told(), stream.rest(), stream.text(), stream.doubt()


def filled(table, text):
    """A stream in which a text was put at once."""
    stream = Stream(table)
    stream.put(text)
    return stream


def sure_by_sweeping(rows, text, behind):
    """The pieces of a text's cutting that it has with each of the texts behind it, too."""
    cuttings = [plain_cut(rows, text + more) for more in behind]
    return os.path.commonprefix(cuttings)


def drawn_bits(chance, text):
    """A text in bits, some of them without signs."""
    told = []
    at = 0
    while at < len(text):
        many = chance.choice([0, 1, 1, 2, 3, 7, 20])
        told.append(text[at:at + many])
        at += many
    return told


class ByHand(unittest.TestCase):

    def test_a_piece_as_soon_as_it_is_sure(self):
        stream = Stream(Table("abc", [("a", "b"), ("ab", "c"), ("c", "c")]))
        self.assertEqual([stream.put(sign) for sign in "abcccab"], [[], [], ["abc"], [], ["cc"], [], []])
        self.assertEqual(all_told(stream)[:3], (["abc", "cc"], ["ab"], "abcccab"))
        self.assertEqual(stream.doubt(), "c")
        self.assertEqual(stream.put("bc"), ["ab", "b"])
        self.assertEqual(all_told(stream), (["abc", "cc", "ab", "b"], ["c"], "abcccabbc", "c"))

    def test_what_comes_next_makes_other_pieces_ahead(self):
        stream = Stream(Table("abc", [("b", "c"), ("a", "b")]))
        self.assertEqual(stream.put("ab"), [])
        self.assertEqual((stream.rest(), stream.doubt()), (["ab"], "c"))
        self.assertEqual(stream.put("c"), ["a", "bc"])
        self.assertEqual(all_told(stream), (["a", "bc"], [], "abc", None))

    def test_several_pieces_at_once(self):
        stream = Stream(Table("abc", [("a", "b"), ("c", "c")]))
        self.assertEqual(stream.put("ababccca"), ["ab", "ab", "cc", "c"])
        self.assertEqual(all_told(stream), (["ab", "ab", "cc", "c"], ["a"], "ababccca", "b"))

    def test_nothing_put_in(self):
        for table in tables(3):
            stream = Stream(table)
            self.assertEqual(all_told(stream), ([], [], "", None))
            self.assertEqual(stream.put(""), [])
            self.assertEqual(all_told(stream), ([], [], "", None))

    def test_a_bit_without_signs(self):
        stream = filled(abc_table(), "aba")
        ahead = all_told(stream)
        self.assertEqual(stream.put(""), [])
        self.assertEqual(all_told(stream), ahead)

    def test_a_table_without_rows(self):
        stream = Stream(Table("ba", []))
        self.assertEqual(stream.put("ab"), ["a", "b"])
        self.assertEqual(stream.put("b"), ["b"])
        self.assertEqual(all_told(stream), (["a", "b", "b"], [], "abb", None))

    def test_an_idle_piece_puts_nothing_in_doubt(self):
        # Of abc and abcc none stands alone, so a c behind ab changes nothing.
        stream = Stream(Table("abc", [("a", "b"), ("b", "c"), ("a", "bc"), ("abc", "c")]))
        self.assertEqual([stream.put(sign) for sign in "abc"], [[], ["ab"], ["c"]])


class Sought(unittest.TestCase):

    def test_sure_pieces_by_all_that_may_come(self):
        held = 0
        for table in tables(60):
            rows, signs, longest = table.rows(), table.signs(), table.longest()
            if len(signs) ** longest > 300:
                continue
            held += 1
            behind = texts(signs, longest)
            for text in [text for text in some_texts(signs, 20) if len(text) <= 25]:
                stream = Stream(table)
                for at, sign in enumerate(text):
                    sure = len(stream.told())
                    fresh = stream.put(sign)
                    self.assertEqual(stream.told(), sure_by_sweeping(rows, text[:at + 1], behind))
                    self.assertEqual(fresh, stream.told()[sure:])
        self.assertGreater(held, 20)

    def watched(self, table, text, chance):
        """A stream is put in bit by bit, and each time all is held against the plain sweeping."""
        rows, far, longest = table.rows(), reach(table), table.longest()
        stream = Stream(table)
        sofar, told = "", []
        for bit in drawn_bits(chance, text):
            sofar += bit
            told += stream.put(bit)
            self.assertEqual(stream.text(), sofar)
            self.assertEqual(stream.told(), told)
            row = plain_cut(rows, sofar)
            self.assertEqual(told + stream.rest(), row)
            self.assertEqual([end for end in ends_of(row)[len(told):] if end + far <= len(sofar)], [])
            for many in (1, 3, longest + 5):
                more = drawn_text(chance, table.signs(), many)
                self.assertEqual(plain_cut(rows, sofar + more)[:len(told)], told)
            self.check_doubt(stream, rows, longest)
        self.assertEqual(told, plain_cut(rows, text)[:len(told)])

    def check_doubt(self, stream, rows, longest):
        doubt = stream.doubt()
        if not stream.rest():
            self.assertIsNone(doubt)
            return
        self.assertIs(doubt.__class__, str)
        self.assertTrue(1 <= len(doubt) < longest, doubt)
        # All ahead of the rest is sure, so its first piece has the same place in both rows.
        many = len(stream.told())
        behind = plain_cut(rows, stream.text() + doubt)
        self.assertEqual(behind[:many], stream.told())
        self.assertNotEqual(behind[many:many + 1], stream.rest()[:1])

    def test_put_in_bits(self):
        chance = random.Random(22)
        for table in tables(40):
            for text in some_texts(table.signs(), 6)[-7:]:
                self.watched(table, text, chance)

    def test_made_of_pieces(self):
        chance = random.Random(2222)
        for table in tables(40):
            for _ in range(3):
                self.watched(table, "".join(chance.choice(table.pieces()) for _ in range(10)), chance)

    def test_310_signs(self):
        chance = random.Random(310)
        for table in tables(4):
            self.watched(table, drawn_text(chance, table.signs(), 310), chance)
            self.watched(table, (table.pieces()[-1] * 310)[:310], chance)

    def test_bits_do_not_matter(self):
        for table in tables(10):
            text = (drawn_text(random.Random(3), table.signs(), 9) + table.pieces()[-1])[:14]
            at_once = all_told(filled(table, text))[:3]
            for one, other in itertools.combinations(range(len(text) + 1), 2):
                stream = Stream(table)
                told = stream.put(text[:one]) + stream.put(text[one:other]) + stream.put(text[other:])
                self.assertEqual(all_told(stream)[:3], at_once)
                self.assertEqual(told, at_once[0])

    def test_only_signs_of_the_table_in_a_doubt(self):
        for table in tables(10):
            for text in some_texts(table.signs(), 10):
                doubt = filled(table, text).doubt()
                self.assertTrue(doubt is None or set(doubt) <= set(table.signs()))


class WhatIsRefused(unittest.TestCase):

    def test_bits_that_are_no_texts(self):
        stream = filled(abc_table(), "cab")
        ahead = all_told(stream)
        for thing in no_texts():
            refused(self, NoSign, {"place": None}, stream.put, thing)
            self.assertEqual(all_told(stream), ahead)

    def test_the_place_is_within_the_bit(self):
        stream = filled(abc_table(), "cab")
        ahead = all_told(stream)
        for text, place in (("d", 0), ("cd", 1), ("abcabdd", 5), ("\nab", 0), ("ab ", 2)):
            refused(self, NoSign, {"place": place}, stream.put, text)
            self.assertEqual(all_told(stream), ahead)
        self.assertEqual(stream.put("c"), ["c"])
        self.assertEqual(stream.told(), ["c", "ab", "c"])


class NothingKept(unittest.TestCase):

    def test_told_lists_are_the_askers_own(self):
        table = Table("abc", [("a", "b"), ("ab", "c"), ("c", "c")])
        stream, other = Stream(table), Stream(table)
        for sign in "abcabcccabab":
            told = stream.put(sign)
            other.put(sign)
            ahead = all_told(other)
            told.append("changed")
            self.assertEqual(all_told(stream), ahead)
            for told in (stream.told(), stream.rest()):
                self.assertIs(told.__class__, list)
                told.append("changed")
                told[0] = "changed"
                told.reverse()
                self.assertEqual(all_told(stream), ahead)

    def test_told_lists_stay(self):
        stream = filled(abc_table(), "aba")
        told, rest = stream.told(), stream.rest()
        ahead = list(told), list(rest)
        fresh = stream.put("bca")
        kept = list(fresh)
        stream.put("abcabc")
        self.assertEqual((told, rest, fresh), (*ahead, kept))

    def test_two_streams_beside_one_another(self):
        chance = random.Random(5)
        for table in tables(5):
            one, other = Stream(table), Stream(table)
            texts_put = ["", ""]
            for _ in range(20):
                which = chance.randrange(2)
                bit = drawn_text(chance, table.signs(), chance.randrange(4))
                texts_put[which] += bit
                (one, other)[which].put(bit)
                self.assertEqual(all_told(one)[:3], all_told(filled(table, texts_put[0]))[:3])
                self.assertEqual(all_told(other)[:3], all_told(filled(table, texts_put[1]))[:3])


class Twins(unittest.TestCase):

    def test_each_goes_on_by_itself(self):
        chance = random.Random(7)
        for table in tables(8):
            stream = Stream(table)
            for _ in range(8):
                stream.put(drawn_text(chance, table.signs(), chance.randrange(4)))
                ahead = all_told(stream)
                twin = stream.twin()
                self.assertIsInstance(twin, Stream)
                self.assertEqual(all_told(twin)[:3], ahead[:3])
                more = drawn_text(chance, table.signs(), 5)
                twin.put(more)
                self.assertEqual(all_told(stream), ahead)
                self.assertEqual(all_told(twin)[:3], all_told(filled(table, ahead[2] + more))[:3])
                ahead = all_told(twin)
                stream.put(drawn_text(chance, table.signs(), 3))
                self.assertEqual(all_told(twin), ahead)

    def test_a_twin_tells_only_what_becomes_sure_in_it(self):
        stream = filled(Table("abc", [("b", "c"), ("a", "b")]), "abab")
        twin = stream.twin()
        self.assertEqual(stream.told(), ["ab"])
        self.assertEqual(twin.put("c"), ["a", "bc"])
        self.assertEqual(stream.put("a"), ["ab"])

    def test_a_twin_of_a_twin(self):
        stream = filled(abc_table(), "aab")
        twin = stream.twin().twin()
        stream.put("c")
        self.assertEqual(twin.text(), "aab")
        self.assertEqual(Stream(abc_table()).twin().put("ab"), ["ab"])


if __name__ == "__main__":
    unittest.main()
