"""Two tables held beside one another: whether they cut every text alike."""

from joinranks.checking import check_same_signs
from joinranks.follows import Follows


def in_one_only(one, other):
    """Tell what stands in just one of two lists."""
    return [thing for thing in one if thing not in other] + [thing for thing in other if thing not in one]


def unlike_text(one, other):
    """Tell a text that two tables cut otherwise, None where there is none."""
    check_same_signs(one, other)
    ours = Follows(one)
    theirs = Follows(other)
    lone = in_one_only(ours.alone(), theirs.alone())
    if lone:
        return lone[0]
    for left in ours.alone():
        rights = in_one_only(ours.after(left), theirs.after(left))
        if rights:
            return left + rights[0]
    return None
