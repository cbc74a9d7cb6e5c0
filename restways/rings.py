"""Rings of likings, ranks, and the one rest of a town that has ranks."""

from restways.errors import HasRing
from restways.leading import least_ranks, ring_without
from restways.lets import lets


def leaders_of(ways):
    """Of what lets told, for each let way the list of those that lead on to it straight."""
    # Whatever else is liked more leads on to the one that is liked next more, and by it to this one.
    return {way: row[max(at - 1, 0):at] + ([way[1:]] if len(way) > 1 else [])
            for row in ways.values() for at, way in enumerate(row)}


def ring(town):
    """A ring of likings, None where there are ranks; refused with TooMany."""
    leaders = leaders_of(lets(town))
    return ring_without(leaders, least_ranks(leaders))


def ranks(town):
    """A dict from all let ways to their least ranks, None where there is a ring; refused with TooMany."""
    leaders = leaders_of(lets(town))
    told = least_ranks(leaders)
    return told if len(told) == len(leaders) else None


def ways_in_order(town):
    """The list of all let ways, each behind those that lead on to it; refused with TooMany, then HasRing."""
    leaders = leaders_of(lets(town))
    told = least_ranks(leaders)
    if len(told) < len(leaders):
        raise HasRing(ring_without(leaders, told))
    return list(told)


def rest(town):
    """The one rest; refused with TooMany, then HasRing."""
    choice = {house: None for house in town[1]}
    for way in ways_in_order(town):
        # By now all that the house likes more, and what the next house goes by, is settled.
        is_offered = len(way) == 1 or choice[way[1]] == way[1:]
        if is_offered and choice[way[0]] is None:
            choice[way[0]] = way
    return choice
