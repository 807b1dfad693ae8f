"""Grammars of signs: states, and ways between them, each by one sign."""

from joinranks.checking import check_place
from joinranks.errors import NoGrammar, NoSign
from joinranks.figures import is_up_to
from joinranks.tables import may_be_sign

MOST_STATES = 4
MOST_WAYS = 48


class Grammar:
    """States, ways and ends; it never changes, so it may be shared."""

    def __init__(self, many, ways, ends):
        if not is_up_to(many, MOST_STATES) or many == 0:
            raise NoGrammar("many", None)
        self.state_count = many
        self.way_list = []
        self.state_by_way = {}
        self.end_list = []
        self.take_ways(ways)
        self.take_ends(ends)

    def is_state(self, thing):
        """Tell whether anything is a state."""
        return is_up_to(thing, self.state_count - 1)

    def may_take_way(self, way):
        """Tell whether anything may be the next way."""
        if not isinstance(way, tuple) or len(way) != 3:
            return False
        state, sign, ahead = way
        if not self.is_state(state) or not self.is_state(ahead):
            return False
        if not isinstance(sign, str) or len(sign) != 1 or not may_be_sign(sign):
            return False
        return (state, sign) not in self.state_by_way

    def take_ways(self, ways):
        """Take the ways, while the grammar is being made."""
        if not isinstance(ways, list) or len(ways) > MOST_WAYS:
            raise NoGrammar("ways", None)
        for number, way in enumerate(ways):
            if not self.may_take_way(way):
                raise NoGrammar("ways", number)
            state, sign, ahead = way
            self.way_list.append((state, sign, ahead))
            self.state_by_way[(state, sign)] = ahead

    def take_ends(self, ends):
        """Take the ends, while the grammar is being made."""
        if not isinstance(ends, list):
            raise NoGrammar("ends", None)
        for number, end in enumerate(ends):
            if not self.is_state(end) or end in self.end_list:
                raise NoGrammar("ends", number)
            self.end_list.append(end)

    def many(self):
        """Tell the number of states."""
        return self.state_count

    def ways(self):
        """Tell the ways."""
        return list(self.way_list)

    def ends(self):
        """Tell the ends."""
        return list(self.end_list)

    def leads(self, state, text):
        """Tell the state to which a text leads from a state, None where a way lacks."""
        check_place(state, self.state_count - 1)
        if not isinstance(text, str):
            raise NoSign(None)
        for sign in text:
            if (state, sign) not in self.state_by_way:
                return None
            state = self.state_by_way[(state, sign)]
        return state

    def tells(self, text):
        """Tell whether a text leads from state 0 to an end."""
        return self.leads(0, text) in self.end_list
