"""Learners: texts put in and taken away, joinings done and undone, in whatever order."""

from joinranks.checking import check_text
from joinranks.counting import count_pairs, count_pieces, is_many
from joinranks.errors import NoCount, NoDeed
from joinranks.learning import joined_once
from joinranks.sweeping import swept


class Learner:
    """A table that grows by the best pairs of its counted texts."""

    def __init__(self, table):
        self.held_table = table
        self.tables_ahead = []
        self.manys = {}
        self.cuttings = {}

    def check_put(self, text, many):
        """Refuse what is no text of the table, and then what is no number of times."""
        check_text(self.held_table, text)
        if not is_many(many):
            raise NoCount(None)

    def cuts(self):
        """Tell the cuttings of the texts by the table as it is now, as tuples (cutting, many)."""
        return [(self.cuttings[text], self.manys[text]) for text in self.manys]

    def put(self, text, many):
        """Put in a text so many times."""
        self.check_put(text, many)
        if text not in self.manys:
            self.manys[text] = 0
            self.cuttings[text] = swept(self.held_table, text)
        self.manys[text] += many

    def take(self, text, many):
        """Take away a text so many times."""
        self.check_put(text, many)
        if self.manys.get(text, 0) < many:
            raise NoCount(None)
        self.manys[text] -= many
        # What is gone stands behind the others when it comes again, so it does not stay with none.
        if self.manys[text] == 0:
            del self.manys[text]
            del self.cuttings[text]

    def step(self, least):
        """Join the best pair; tell the log's tuple, None where there is no pair and nothing was done."""
        done = joined_once(self.held_table, self.cuts(), least)
        if done is None:
            return None
        new_table, new_cuts, entry = done
        self.tables_ahead.append(self.held_table)
        self.held_table = new_table
        for text, (row, many) in zip(self.manys, new_cuts):
            self.cuttings[text] = row
        return entry

    def step_back(self):
        """Take away the row of the last step that is not taken back."""
        if not self.tables_ahead:
            raise NoDeed("no step is left to be taken back")
        self.held_table = self.tables_ahead.pop()
        for text in self.manys:
            self.cuttings[text] = swept(self.held_table, text)

    def counted(self):
        """Tell the counted texts, in the order in which they came."""
        return [(text, self.manys[text]) for text in self.manys]

    def beside(self):
        """Tell how often pieces stand beside one another in the texts."""
        return count_pairs(self.held_table, self.cuts())

    def table(self):
        """Tell the table as it is now."""
        return self.held_table

    def many_pieces(self):
        """Tell the number of all pieces of the texts."""
        return count_pieces(self.cuts())
