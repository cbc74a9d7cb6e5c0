"""Conds, likings and hands, and whether a cond holds."""

from restways.names import is_name
from restways.plain import is_row, is_whole

MOST_CONDS = 4
LONGEST_ASKED = 99
GREATEST_WORTH = 999
NAMING = ("by", "from", "to", "mark")


def is_worded(thing, many):
    """Whether thing is a tuple of many things, a text first."""
    # Words are compared only behind this: an odd thing may tell anything, or fail, when it is compared.
    return is_row(thing, many, many) and isinstance(thing[0], str)


def is_plain_cond(thing):
    """Whether thing is a cond without not."""
    if not is_worded(thing, 2):
        return False
    word, about = thing
    if word == "long":
        return is_whole(about, 0, LONGEST_ASKED)
    return word in NAMING and is_name(about)


def is_cond(thing):
    """Whether thing, which may be anything, is a cond."""
    if is_worded(thing, 2) and thing[0] == "not":
        return is_plain_cond(thing[1])
    return is_plain_cond(thing)


def are_conds(thing):
    """Whether thing is a tuple of as many conds as one rule may have."""
    return is_row(thing, 0, MOST_CONDS) and all([is_cond(cond) for cond in thing])


def asks_to(cond):
    """Whether a cond asks to which house a way is handed."""
    if cond[0] == "not":
        return asks_to(cond[1])
    return cond[0] == "to"


def is_worth(thing):
    """Whether thing is a worth that a liking may tell."""
    return thing is None or is_whole(thing, -GREATEST_WORTH, GREATEST_WORTH)


def is_liking(thing):
    """Whether thing, which may be anything, is a liking."""
    if not is_row(thing, 2, 2) or not are_conds(thing[0]):
        return False
    return is_worth(thing[1]) and not any([asks_to(cond) for cond in thing[0]])


def is_act(thing):
    """Whether thing is what a hand may do."""
    if is_worded(thing, 1):
        return thing[0] == "keep"
    return is_worded(thing, 2) and thing[0] in ("put", "strike") and is_name(thing[1])


def is_hand(thing):
    """Whether thing, which may be anything, is a hand."""
    return is_row(thing, 2, 2) and are_conds(thing[0]) and is_act(thing[1])


def holds(cond, way, marks, to=None):
    """Whether a cond holds of a way with marks, handed to the house to."""
    word, about = cond
    if word == "not":
        return not holds(about, way, marks, to)
    if word == "by":
        return about in way
    if word == "from":
        return len(way) > 1 and way[1] == about
    if word == "to":
        return to == about
    if word == "mark":
        return about in marks
    return len(way) - 1 >= about


def all_hold(conds, way, marks, to=None):
    """Whether all conds hold of a way with marks, handed to the house to."""
    for cond in conds:
        if not holds(cond, way, marks, to):
            return False
    return True
