"""Kept texts: changed in their midst, and the changes undone."""

from joinranks.checking import check_place, check_same_signs
from joinranks.errors import NoDeed
from joinranks.follows import Follows
from joinranks.patches import changed_text, check_change, patch_of, patched
from joinranks.quick import read_on


class Kept:
    """A text of a table with its cutting, and what leads back to what it was."""

    def __init__(self, table, text):
        self.held_follows = Follows(table)
        self.held_cutting = read_on(self.held_follows, text)
        self.held_text = text
        self.ways_back = []

    def do_change(self, place, gone, put):
        """Change the text and the cutting; tell the patch."""
        patch = patch_of(self.held_follows, self.held_cutting, place, gone, put)
        self.held_text = changed_text(self.held_text, place, gone, put)
        self.held_cutting = patched(self.held_cutting, patch)
        return patch

    def change(self, place, gone, put):
        """Let so many signs go from a place on, and put a text there; tell the patch."""
        check_change(self.table(), self.held_text, place, gone, put)
        way_back = (place, len(put), self.held_text[place:place + gone])
        patch = self.do_change(place, gone, put)
        self.ways_back.append(way_back)
        return patch

    def undo(self):
        """Undo the last change that is not undone; tell the patch that leads back."""
        if not self.ways_back:
            raise NoDeed("no change is left to be undone")
        place, gone, put = self.ways_back.pop()
        return self.do_change(place, gone, put)

    def follows(self):
        """Tell the follows of the table."""
        return self.held_follows

    def table(self):
        """Tell the table."""
        return self.held_follows.table()

    def text(self):
        """Tell the text."""
        return self.held_text

    def cutting(self):
        """Tell the cutting of the text."""
        return list(self.held_cutting)

    def piece_at(self, place):
        """Tell the number of the piece of the cutting that has the sign at a place."""
        check_place(place, len(self.held_text) - 1)
        number = 0
        end = len(self.held_cutting[0])
        while end <= place:
            number += 1
            end += len(self.held_cutting[number])
        return number

    def cut_by(self, table):
        """Tell a new kept text of the same signs, with as much to undo, cut by a table."""
        other = Kept(table, self.held_text)
        other.ways_back = list(self.ways_back)
        return other

    def twin(self):
        """Tell another kept text that goes on by itself, with as much to undo."""
        return self.cut_by(self.table())

    def under(self, table):
        """Tell the same text cut by another table with the same signs, with as much to undo."""
        check_same_signs(self.table(), table)
        return self.cut_by(table)
