"""Whether a thing shows that all fair rows of comings end, or that one goes round for ever."""

from restways.names import is_name
from restways.plain import is_number, is_row
from restways.states import Likings, begun, come_by, comings
from restways.towns import is_way


def is_pair(thing):
    """Whether thing is a tuple of two names."""
    return is_row(thing, 2, 2) and is_name(thing[0]) and is_name(thing[1])


def is_offer(likings, house, thing):
    """Whether thing is what a house may offer: a let way of it, or None."""
    if thing is None:
        return True
    if not is_way(likings.place, thing) or thing[0] != house:
        return False
    # The goal's own way is let even where its worth is None, so that it has no key.
    return len(thing) == 1 or likings.key_of(thing) is not None


def is_state_row(likings, pair, thing, width):
    """Whether thing is a row of a state between the two houses of pair."""
    if not is_row(thing, 4, 4) or not is_pair(thing[:2]) or thing[:2] != pair:
        return False
    one, to, last, waits = thing
    return is_row(waits, 0, width) and all([is_offer(likings, one, way) for way in (last,) + waits])


def is_state(likings, pairs, thing, width):
    """Whether thing is a state with a row for each of pairs."""
    if not is_row(thing, len(pairs), len(pairs)):
        return False
    return all([is_state_row(likings, pair, row, width) for pair, row in zip(pairs, thing)])


def is_note(thing):
    """Whether thing may stand by a state: (rank, pair)."""
    if not is_row(thing, 2, 2) or not is_number(thing[0]) or thing[0] < 0:
        return False
    return thing[1] is None or is_pair(thing[1])


def leads_down(likings, paper, state, width):
    """Whether what a paper has by a state fits with what waits there and with where each coming leads."""
    rank, pair = paper[state]
    waiting = comings(state)
    if pair not in ([coming[:2] for coming in waiting] or [None]):
        return False
    for coming in waiting:
        after = come_by(likings, state, coming, width)
        if after not in paper:
            return False
        if paper[after][0] >= rank and (coming[:2] == pair or paper[after] != (rank, pair)):
            return False
    return True


def shows_rests(town, thing, width=1):
    """Whether thing, which may be anything, is a paper that each fair row of comings from begun ends."""
    likings = Likings(town)
    start = begun(town)
    pairs = [row[:2] for row in start]
    # All keys are asked ahead of any look into the dict: an odd one may fail when it is compared.
    if not isinstance(thing, dict) or not all([is_state(likings, pairs, state, width) for state in thing]):
        return False
    if not all([is_note(note) for note in thing.values()]) or start not in thing:
        return False
    return all([leads_down(likings, thing, state, width) for state in thing])


def is_coming(thing):
    """Whether thing is (a, b, k), two names and a whole number."""
    return is_row(thing, 3, 3) and is_pair(thing[:2]) and is_number(thing[2])


def are_comings(thing):
    """Whether thing is a tuple of comings."""
    return isinstance(thing, tuple) and all([is_coming(coming) for coming in thing])


def state_behind(likings, state, row, width):
    """The state behind a row of comings, None where one of them can't be where it is done."""
    for coming in row:
        if coming not in comings(state):
            return None
        state = come_by(likings, state, coming, width)
    return state


def shows_round(town, thing, width=1):
    """Whether thing, which may be anything, is (ahead, again), by which comings go round for ever and are fair."""
    if not is_row(thing, 2, 2) or not are_comings(thing[0]) or not are_comings(thing[1]):
        return False
    likings = Likings(town)
    ahead, again = thing
    start = state_behind(likings, begun(town), ahead, width)
    if start is None or again == () or state_behind(likings, start, again, width) != start:
        return False
    done = [coming[:2] for coming in again]
    return all([coming[:2] in done for coming in comings(start)])
