"""Towns that are made by kin."""

from restways.kin import is_elder, ties_of
from restways.towns import tied

# How much more a way by a child is worth, so that no fondness outweighs it.
MORE_BY_CHILD = 100


def kin_likings(house, near, kin, fond):
    """The likings of a house by kin: each way by the fondness for its second house, children ahead of all."""
    rules = []
    for other in near:
        more = MORE_BY_CHILD if is_elder(kin, house, other) else 0
        rules.append(((("from", other),), fond.get((house, other), 0) + more))
    return tuple(rules)


def kin_hands(house, near, kin):
    """The hands of a house by kin: what comes of none of its children is handed to its children alone."""
    others = [other for other in near if not is_elder(kin, house, other)]
    return tuple([((("from", one), ("to", other)), ("keep",)) for one in others for other in others if one != other])


def kin_town(goal, kin, fond):
    """The town of the goal and the houses of kin, with likings and hands by kin and fond."""
    houses = tuple(sorted({goal} | {name for row in kin for name in row[:2]}))
    bare = (goal, houses, ties_of(kin), (), ())
    near = {house: tied(bare, house) for house in houses}
    likings = tuple([kin_likings(house, near[house], kin, fond) for house in houses])
    hands = tuple([kin_hands(house, near[house], kin) for house in houses])
    return bare[:3] + (likings, hands)
