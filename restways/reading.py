"""Reads a town's text."""

from restways.errors import NoText
from restways.towns import is_town
from restways.words import all_names, rule_in

# The kinds of rows behind the houses' one, in their order.
KINDS = ("tie", "like", "hand")


def row_in(houses, words):
    """What a row behind the houses' one tells, and ahead of it (kind, place of its house), by which rows stand.

    None where the row isn't so written, or its house has no place.
    """
    if words[0] == "tie":
        return ((0, 0), tuple(words[1:])) if len(words) == 3 and all_names(words[1:]) else None
    told = rule_in(words)
    if told is None or told[0] not in houses:
        return None
    return ((KINDS.index(words[0]), houses.index(told[0])), told[1])


def rows_in(houses, rows):
    """What all rows behind the houses' one tell; refused with NoText."""
    found = [((0, 0), None)]
    for number, words in enumerate(rows, start=3):
        told = row_in(houses, words)
        if told is None or told[0] < found[-1][0]:
            raise NoText(number)
        found.append(told)
    return found[1:]


def rules_in(told, kind, houses):
    """For each house in order the tuple of its rules of a kind."""
    return tuple([tuple([rule for at, rule in told if at == (kind, place)]) for place in range(len(houses))])


def read_town(text):
    """The town of a text, which may be anything; refused with NoText."""
    if not isinstance(text, str):
        raise NoText(0)
    rows = [row.split(" ") for row in text.split("\n")]
    if len(rows[0]) != 2 or rows[0][0] != "goal" or not all_names(rows[0][1:]):
        raise NoText(1)
    if len(rows) < 2 or len(rows[1]) < 2 or rows[1][0] != "houses" or not all_names(rows[1][1:]):
        raise NoText(2)
    goal, houses = rows[0][1], tuple(rows[1][1:])
    told = rows_in(houses, rows[2:])
    ties = tuple([pair for at, pair in told if at == (0, 0)])
    town = (goal, houses, ties, rules_in(told, 1, houses), rules_in(told, 2, houses))
    if not is_town(town):
        raise NoText(len(rows) + 1)
    return town
