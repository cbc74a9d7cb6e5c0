"""Which ways are let, and with which marks."""

from restways.errors import TooMany
from restways.handing import handed
from restways.liking import most_liked_first, worth
from restways.towns import tied

MOST_LET = 400


def marks_ahead(town, way, marks, house):
    """The marks of a let way with marks when house stands ahead of it, None where that isn't let."""
    told = handed(town, way, marks, house)
    if told is None or worth(town, (house,) + way, told) is None:
        return None
    return told


def marks_of(town, way):
    """The marks of a way, None where it isn't let."""
    told = ()
    for at in reversed(range(len(way) - 1)):
        told = marks_ahead(town, way[at + 1:], told, way[at])
        if told is None:
            return None
    return told


def let_marks(town):
    """A dict from all let ways to their marks; refused with TooMany."""
    start = (town[0],)
    found = {start: ()}
    fresh = [start]
    while fresh:
        way = fresh.pop()
        for house in tied(town, way[0]):
            told = None if house in way else marks_ahead(town, way, found[way], house)
            if told is None:
                continue
            if len(found) == MOST_LET:
                raise TooMany()
            found[(house,) + way] = told
            fresh.append((house,) + way)
    return found


def lets(town):
    """A dict from all houses to the lists of their let ways, most liked first; refused with TooMany."""
    goal, houses = town[:2]
    marked = {house: [] for house in houses}
    for way, marks in let_marks(town).items():
        marked[way[0]].append((way, marks))
    # The goal's own way is let even where its worth is None, and stands alone.
    return {house: [(goal,)] if house == goal else most_liked_first(town, marked[house]) for house in houses}


def places_of(ways):
    """Of what lets told, a dict from each let way to its place among those of its house."""
    return {way: at for row in ways.values() for at, way in enumerate(row)}
