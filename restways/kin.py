"""Kin: who is an elder of whom, who are equals, and whether a town keeps that."""

from restways.leading import least_ranks, ring_without
from restways.lets import lets
from restways.names import is_name
from restways.plain import is_rising, is_row


def is_kin_row(thing):
    """Whether thing may be a row of kin."""
    if not is_row(thing, 3, 3) or not is_name(thing[0]) or not is_name(thing[1]) or not isinstance(thing[2], str):
        return False
    one, other, word = thing
    if word == "equal":
        return one < other
    return word == "over" and one != other


def ties_of(kin):
    """The rising tuple of the two houses of each row of kin, the lesser first."""
    return tuple(sorted([tuple(sorted(row[:2])) for row in kin]))


def is_kin(thing):
    """Whether thing, which may be anything, is kin."""
    if not isinstance(thing, tuple) or not all([is_kin_row(row) for row in thing]):
        return False
    return is_rising(thing) and is_rising(ties_of(thing))


def is_elder(kin, one, other):
    """Whether one is an elder of the other, so that the other is a child of it."""
    return (one, other, "over") in kin


def elder_ring(kin):
    """A ring of elders, None where there is none."""
    elders = {name: [] for row in kin for name in row[:2]}
    for one, other, word in kin:
        if word == "over":
            elders[other].append(one)
    return ring_without(elders, least_ranks(elders))


def goes_by_kin(kin, way):
    """Whether the second house of a way has a child ahead of it or behind it."""
    return len(way) < 3 or is_elder(kin, way[1], way[2]) or is_elder(kin, way[1], way[0])


def likes_children_most(kin, ways):
    """Whether of the ways of one house, most liked first, none stands ahead of one by its child but such."""
    by_child = [len(way) > 1 and is_elder(kin, way[0], way[1]) for way in ways]
    return by_child == sorted(by_child, reverse=True)


def keeps_kin(town, kin):
    """Whether a town keeps kin; refused with TooMany."""
    ways = lets(town)
    if ties_of(kin) != town[2] or elder_ring(kin) is not None:
        return False
    if not all([goes_by_kin(kin, way) for row in ways.values() for way in row]):
        return False
    return all([likes_children_most(kin, row) for row in ways.values()])
