"""Choices, what is offered by them, and the rests of a town."""

from restways.lets import lets, marks_of, places_of
from restways.liking import most_liked_first
from restways.towns import is_way, tied


def offered(town, choice, house):
    """The ways that a choice offers to a house, most liked first; none to the goal, which is on them all."""
    marked = []
    for other in tied(town, house):
        if choice[other] is None:
            continue
        way = (house,) + choice[other]
        marks = marks_of(town, way) if is_way(town, way) else None
        if marks is not None:
            marked.append((way, marks))
    return most_liked_first(town, marked)


def is_rest(town, choice):
    """Whether a choice is a rest."""
    for house in town[1]:
        ways = [(house,)] if house == town[0] else offered(town, choice, house)
        if choice[house] != (ways[0] if ways else None):
            return False
    return True


def links_of(ways):
    """For each let way (v,) + w, w one of u, the row (v, its place in ways[v], u, the place of w in ways[u])."""
    places = places_of(ways)
    return [(way[0], at, way[1], places[way[1:]]) for way, at in places.items() if len(way) > 1]


def narrow_once(links, left):
    """Takes from left, the places open to each house, some that no rest has; whether each house keeps one."""
    for house, at, other, behind in links:
        if behind not in left[other]:
            left[house] = [place for place in left[house] if place != at]
        elif len(left[other]) == 1:
            # The other house goes by it for sure, so nothing that is liked less will do.
            left[house] = [place for place in left[house] if place <= at]
        elif left[house][0] > at:
            # Offered this, the house would like it more than all that is open to it.
            left[other] = [place for place in left[other] if place != behind]
        if not left[house]:
            return False
    return True


def narrowed(links, open_to):
    """What is left when nothing more can be taken from open_to, None where that leaves a house without any."""
    left = dict(open_to)
    before = {}
    while left != before:
        before = dict(left)
        if not narrow_once(links, left):
            return None
    return left


def settled(links, open_to):
    """The dicts that leave each house just one of the places open to it, and are rests."""
    found = []
    waiting = [open_to]
    while waiting:
        left = narrowed(links, waiting.pop())
        if left is None:
            continue
        unsure = [(len(left[house]), house) for house in left if len(left[house]) > 1]
        if not unsure:
            found.append({house: left[house][0] for house in left})
            continue
        # The house with the fewest places splits the search into the fewest branches.
        house = min(unsure)[1]
        for place in left[house]:
            tried = dict(left)
            tried[house] = [place]
            waiting.append(tried)
    return found


def rest_key(choice):
    """The tuple of a choice's ways by which rests are sorted."""
    return tuple([() if choice[house] is None else choice[house] for house in sorted(choice)])


def rests(town):
    """The list of all rests of a town; refused with TooMany."""
    goal, houses = town[:2]
    ways = lets(town)
    links = links_of(ways)
    for house in houses:
        # To go by none stands behind all ways; the goal of a rest goes by its own.
        if house != goal:
            ways[house].append(None)
    open_to = {house: list(range(len(ways[house]))) for house in houses}
    found = [{house: ways[house][left[house]] for house in houses} for left in settled(links, open_to)]
    return sorted(found, key=rest_key)
