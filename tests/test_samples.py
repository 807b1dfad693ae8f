"""That the tables of the tests have the edges that the document names, and that the plain doings agree."""

import unittest

from tests.samples import BY_HAND, done_one_by_one, drawn_tables, plain_cut, some_texts, tables


class Samples(unittest.TestCase):

    def test_edges(self):
        for few in (BY_HAND, drawn_tables(25)):
            self.assertIn(24, [len(rows) for _, rows in few])
        self.assertIn(0, [len(rows) for _, rows in BY_HAND])
        self.assertIn(16, [table.longest() for table in tables(0)])
        idle = [piece for table in tables(0) for piece in table.pieces() if plain_cut(table.rows(), piece) != [piece]]
        self.assertGreater(len(idle), 5)

    def test_two_ways_of_plain_cutting(self):
        for table in tables():
            for text in some_texts(table.signs()):
                self.assertEqual(plain_cut(table.rows(), text), done_one_by_one(table.rows(), text)[1])


if __name__ == "__main__":
    unittest.main()
