"""Deeds: the changes of a town that stands."""

from restways.rules import is_worded
from restways.towns import are_hands, are_likings, is_house, tied


def is_deed(town, thing):
    """Whether thing, which may be anything, is a deed that this town lets."""
    if not is_worded(thing, 3) or not is_house(town[1], thing[1]):
        return False
    word, house, about = thing
    if word == "like":
        return are_likings(about)
    if word == "hand":
        return are_hands(about)
    if not is_house(town[1], about) or about == house:
        return False
    if word == "tie":
        return about not in tied(town, house)
    return word == "untie" and about in tied(town, house)


def houses_named(deed):
    """The rising list of the houses that a deed names."""
    return sorted(deed[1:]) if deed[0] in ("tie", "untie") else [deed[1]]


def put_for(town, rows, house, rules):
    """The rows of all houses with other rules for one of them."""
    at = town[1].index(house)
    return rows[:at] + (rules,) + rows[at + 1:]


def town_behind(town, deed):
    """The town that comes of a deed."""
    goal, houses, ties, likings, hands = town
    word, house, about = deed
    pair = tuple(houses_named(deed))
    if word == "tie":
        ties = tuple(sorted(ties + (pair,)))
    elif word == "untie":
        ties = tuple([one for one in ties if one != pair])
    elif word == "like":
        likings = put_for(town, likings, house, about)
    else:
        hands = put_for(town, hands, house, about)
    return (goal, houses, ties, likings, hands)
