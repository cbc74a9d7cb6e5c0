"""All orders of comings at once: whether each fair one ends, or one goes round for ever."""

from restways.states import Likings, begun, come_by, comings


def reached(town, most, width):
    """The list of the states that can come of begun, and for each its list of (coming, place of the state behind).

    None where there are more than most.
    """
    if most < 1:
        return None
    likings = Likings(town)
    states = [begun(town)]
    places = {states[0]: 0}
    steps = []
    while len(steps) < len(states):
        state = states[len(steps)]
        row = []
        for coming in comings(state):
            after = come_by(likings, state, coming, width)
            if after not in places:
                if len(states) == most:
                    return None
                places[after] = len(states)
                states.append(after)
            row.append((coming, places[after]))
        steps.append(row)
    return (states, steps)


def done_order(steps):
    """The places of all states in the order in which a walk, deeper first, is done with them."""
    order = []
    seen = [False] * len(steps)
    seen[0] = True
    path = [(0, 0)]
    while path:
        place, at = path.pop()
        if at == len(steps[place]):
            order.append(place)
            continue
        path.append((place, at + 1))
        after = steps[place][at][1]
        if not seen[after]:
            seen[after] = True
            path.append((after, 0))
    return order


def knots_of(steps):
    """For each state the number of its knot: of one knot are those that can come of one another.

    A coming never leads to a knot of a lesser number.
    """
    befores = [[] for row in steps]
    for place, row in enumerate(steps):
        for coming, after in row:
            befores[after].append(place)
    knots = [None] * len(steps)
    for number, start in enumerate(reversed(done_order(steps))):
        fresh = [start]
        while fresh:
            place = fresh.pop()
            if knots[place] is None:
                knots[place] = number
                fresh.extend(befores[place])
    return knots


def stuck_pairs(steps, knots):
    """For each state the list of the pairs with offers waiting there of which no coming stays in its knot.

    What waits does so until it comes, so that all states of a knot have the same ones.
    """
    staying = {}
    for place, row in enumerate(steps):
        for coming, after in row:
            if knots[after] == knots[place]:
                staying[(knots[place], coming[:2])] = True
    return [[coming[:2] for coming, after in row if (knots[place], coming[:2]) not in staying]
            for place, row in enumerate(steps)]


def walks_from(steps, start):
    """For each state that can come of start a shortest row of comings that leads there."""
    walks = {start: ()}
    fresh = [start]
    while fresh:
        later = []
        for place in fresh:
            for coming, after in steps[place]:
                if after not in walks:
                    walks[after] = walks[place] + (coming,)
                    later.append(after)
        fresh = later
    return walks


def walk_by(steps, knots, start, pair):
    """A shortest row of comings that stays in the knot of start and ends with one of pair; and where it leads."""
    # What leaves a knot never comes back, so that a walk whose end is in it was never out of it.
    found = [(len(walk), walk + (coming,), after) for place, walk in walks_from(steps, start).items()
             for coming, after in steps[place] if coming[:2] == pair and knots[after] == knots[start]]
    return min(found)[1:]


def round_at(steps, knots, start):
    """Ahead and again of a state all of whose pairs with offers waiting have comings that stay in its knot."""
    again = ()
    place = start
    for pair in [coming[:2] for coming, after in steps[start]]:
        if pair not in [coming[:2] for coming in again]:
            walk, place = walk_by(steps, knots, place, pair)
            again += walk
    again += walks_from(steps, place)[start]
    return (walks_from(steps, 0)[start], again)


def explored(town, most=1000, width=1):
    """("open", None), ("rests", paper) or ("round", (ahead, again))."""
    found = reached(town, most, width)
    if found is None:
        return ("open", None)
    states, steps = found
    knots = knots_of(steps)
    stuck = stuck_pairs(steps, knots)
    for place, row in enumerate(steps):
        if row and not stuck[place]:
            return ("round", round_at(steps, knots, place))
    last = max(knots)
    return ("rests", {state: (last - knots[place], stuck[place][0] if stuck[place] else None)
                      for place, state in enumerate(states)})
