"""How often the houses of a town change at most."""

from restways.rings import ways_in_order


def mosts(town):
    """A dict from all houses to their mosts; refused with TooMany, then HasRing."""
    of_house = {house: 0 for house in town[1]}
    of_way = {}
    for way in ways_in_order(town):
        # The ways of its house that are liked more stand ahead of it: theirs are summed up already.
        of_house[way[0]] += of_way[way[1:]] if len(way) > 1 else 1
        of_way[way] = of_house[way[0]]
    return of_house
