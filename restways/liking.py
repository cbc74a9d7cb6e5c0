"""What ways are worth to their houses, and which are liked more."""

from restways.rules import all_hold
from restways.towns import likings_of


def worth(town, way, marks):
    """The worth of a way with marks to its house, None where it is never taken."""
    for conds, told in likings_of(town, way[0]):
        if all_hold(conds, way, marks):
            return told
    return 0


def liking_key(town, way, marks):
    """What is less the more a way, of a worth that isn't None, is liked; the way stands last in it."""
    return (-worth(town, way, marks), len(way), way)


def likes_more(town, one, other):
    """Of two (way, marks) of one house, whether the first is liked more."""
    return liking_key(town, one[0], one[1]) < liking_key(town, other[0], other[1])


def most_liked_first(town, marked):
    """The ways of a list of (way, marks) of one house, the most liked first."""
    keys = sorted([liking_key(town, way, marks) for way, marks in marked])
    return [key[-1] for key in keys]


def most_liked(town, marked):
    """The most liked one of a list of (way, marks) of one house, (None, ()) of an empty list."""
    keys = [(liking_key(town, way, marks), marks) for way, marks in marked]
    if not keys:
        return (None, ())
    key, marks = min(keys)
    return (key[-1], marks)
