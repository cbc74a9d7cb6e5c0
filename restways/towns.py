"""Towns, their ties and their ways."""

from restways.names import is_name
from restways.plain import is_rising, is_row
from restways.rules import is_hand, is_liking

MOST_HOUSES = 10
MOST_RULES = 90


def are_houses(thing):
    """Whether thing may be the houses of a town."""
    return is_row(thing, 1, MOST_HOUSES) and all([is_name(name) for name in thing]) and is_rising(thing)


def is_house(houses, thing):
    """Whether thing, which may be anything, is one of houses."""
    return is_name(thing) and thing in houses


def is_tie(houses, thing):
    """Whether thing is a pair of houses, the lesser first."""
    if not is_row(thing, 2, 2):
        return False
    return is_house(houses, thing[0]) and is_house(houses, thing[1]) and thing[0] < thing[1]


def are_ties(houses, thing):
    """Whether thing may be the ties of a town with these houses."""
    return isinstance(thing, tuple) and all([is_tie(houses, pair) for pair in thing]) and is_rising(thing)


def are_likings(thing):
    """Whether thing may be the likings of a house."""
    return is_row(thing, 0, MOST_RULES) and all([is_liking(rule) for rule in thing])


def are_hands(thing):
    """Whether thing may be the hands of a house."""
    return is_row(thing, 0, MOST_RULES) and all([is_hand(rule) for rule in thing])


def is_town(thing):
    """Whether thing, which may be anything, is a town."""
    if not is_row(thing, 5, 5):
        return False
    goal, houses, ties, likings, hands = thing
    if not are_houses(houses) or not is_house(houses, goal) or not are_ties(houses, ties):
        return False
    many = len(houses)
    if not is_row(likings, many, many) or not is_row(hands, many, many):
        return False
    return all([are_likings(rules) for rules in likings]) and all([are_hands(rules) for rules in hands])


def likings_of(town, house):
    """The likings of a house."""
    return town[3][town[1].index(house)]


def hands_of(town, house):
    """The hands of a house."""
    return town[4][town[1].index(house)]


def tied(town, house):
    """The rising list of the houses that are tied with house."""
    ties = town[2]
    return sorted([a for a, b in ties if b == house] + [b for a, b in ties if a == house])


def is_way(town, thing):
    """Whether thing, which may be anything, is a way in a town."""
    goal, houses = town[:2]
    if not is_row(thing, 1, len(houses)) or not all([is_house(houses, house) for house in thing]):
        return False
    if thing[-1] != goal or not is_rising(sorted(thing)):
        return False
    return all([thing[k + 1] in tied(town, thing[k]) for k in range(len(thing) - 1)])
