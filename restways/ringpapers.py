"""Whether a thing shows that there is a ring of likings, or that there is none."""

from restways.lets import lets, places_of
from restways.plain import is_number, is_rising
from restways.rings import leaders_of
from restways.towns import is_way


def leads_on(places, one, other):
    """Whether a let way leads on to another one; places as places_of tells them."""
    if one[0] == other[0]:
        return places[one] < places[other]
    return other[1:] == one


def shows_ring(town, thing):
    """Whether thing, which may be anything, is a ring of likings; refused with TooMany."""
    places = places_of(lets(town))
    # The length is asked first, as no ring has more ways than are let.
    if not isinstance(thing, list) or not 3 <= len(thing) <= len(places) + 1:
        return False
    if not all([is_way(town, way) and way in places for way in thing]):
        return False
    if thing[0] != thing[-1] or not is_rising(sorted(thing[1:])):
        return False
    return all([leads_on(places, thing[k], thing[k + 1]) for k in range(len(thing) - 1)])


def shows_ranks(town, thing):
    """Whether thing, which may be anything, is ranks, the least ones or not; refused with TooMany."""
    leaders = leaders_of(lets(town))
    if not isinstance(thing, dict) or len(thing) != len(leaders):
        return False
    if not all([is_way(town, way) and way in leaders for way in thing]):
        return False
    if not all([is_number(rank) for rank in thing.values()]):
        return False
    return all([thing[one] < thing[way] for way in leaders for one in leaders[way]])
