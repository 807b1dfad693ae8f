"""Streams: texts put in bit by bit, their pieces told as soon as they are sure."""

from joinranks.checking import check_text
from joinranks.follows import Follows
from joinranks.quick import add_lasts, may_end_there, pieces_back


def shared_border(told_lasts, one, other):
    """Tell the last place up to which the cuttings of a text's first so many signs are the same."""
    while one != other:
        if one > other:
            one -= len(told_lasts[one])
        else:
            other -= len(told_lasts[other])
    return one


class Stream:
    """A text that comes bit by bit; it may go on in any way."""

    def __init__(self, table):
        self.held_table = table
        self.held_follows = Follows(table)
        self.signs_put = ""
        self.lasts_put = [None]
        self.sure_pieces = []
        self.sure_place = 0

    def ways_on(self):
        """Tell, as tuples (place, piece), which pieces may stand over the end, and from where on."""
        told = []
        alone = self.held_follows.alone()
        end = len(self.signs_put)
        for place in range(max(0, end - self.held_table.longest() + 1), end):
            begun = self.signs_put[place:]
            for piece in alone:
                if len(piece) > len(begun) and piece.startswith(begun):
                    if may_end_there(self.held_follows, self.lasts_put[place], piece):
                        told.append((place, piece))
        return told

    def find_sure_place(self):
        """Tell the last border up to which all texts that go on so are cut alike."""
        sure = len(self.signs_put)
        for place, piece in self.ways_on():
            sure = shared_border(self.lasts_put, sure, place)
        return sure

    def put(self, text):
        """Put in one more bit of text; tell the pieces that became sure by it."""
        check_text(self.held_table, text)
        self.signs_put += text
        add_lasts(self.held_follows, self.signs_put, self.lasts_put)
        sure = self.find_sure_place()
        fresh = pieces_back(self.lasts_put, self.sure_place, sure)
        self.sure_pieces.extend(fresh)
        self.sure_place = sure
        return fresh

    def told(self):
        """Tell all pieces that are sure so far."""
        return list(self.sure_pieces)

    def rest(self):
        """Tell the pieces of what was put in that are not sure."""
        return pieces_back(self.lasts_put, self.sure_place, len(self.signs_put))

    def text(self):
        """Tell all that was put in so far."""
        return self.signs_put

    def doubt(self):
        """Tell a text that, put in next, would cut the first piece of the rest otherwise; None without a rest."""
        rest = self.rest()
        if not rest:
            return None
        end = self.sure_place + len(rest[0])
        ways = [(place, piece) for place, piece in self.ways_on()
                if shared_border(self.lasts_put, end, place) != end]
        # One is there, else the first piece of the rest would be sure.
        place, piece = ways[0]
        return piece[len(self.signs_put) - place:]

    def twin(self):
        """Tell another stream in which the same was put; each goes on by itself."""
        other = Stream(self.held_table)
        other.put(self.signs_put)
        return other
