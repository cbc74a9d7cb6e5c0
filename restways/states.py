"""States of a town: what each house heard last of each tied one, and which offers wait on the way."""

from restways.handing import handed
from restways.lets import marks_of
from restways.liking import liking_key
from restways.towns import tied


class Likings:
    """What the houses of one town like and hand on, each way asked once."""

    def __init__(self, town):
        self.place = town
        self.known_keys = {}
        self.known_offers = {}

    def key_of(self, way):
        """What is less the more a way is liked by its house; None where the way isn't let."""
        if way not in self.known_keys:
            marks = None if way[0] in way[1:] else marks_of(self.place, way)
            self.known_keys[way] = None if marks is None else liking_key(self.place, way, marks)
        return self.known_keys[way]

    def way_by(self, house, ways):
        """The way that a house goes by where these ways, or None, are what it heard."""
        if house == self.place[0]:
            return (house,)
        keys = [self.key_of((house,) + way) for way in ways if way is not None]
        open_to = [key for key in keys if key is not None]
        return min(open_to)[-1] if open_to else None

    def offer_of(self, way, to):
        """What a house that goes by a way, or None, offers to a tied house."""
        if way is None:
            return None
        if (way, to) not in self.known_offers:
            told = handed(self.place, way, marks_of(self.place, way), to)
            self.known_offers[(way, to)] = None if told is None else way
        return self.known_offers[(way, to)]


def begun(town):
    """The state in which nothing is heard, and the goal's way waits where it is handed on."""
    likings = Likings(town)
    rows = []
    for house in town[1]:
        for other in tied(town, house):
            offer = likings.offer_of((house,), other) if house == town[0] else None
            rows.append((house, other, None, () if offer is None else (offer,)))
    return tuple(rows)


def comings(state):
    """The rising list of the comings (a, b, k) that can be."""
    return [(one, to, k) for one, to, last, waits in state for k in range(len(waits))]


def ways_heard(state, house):
    """The list of what a house heard last of its tied houses."""
    return [last for one, to, last, waits in state if to == house]


def row_heard(row, k):
    """A row where the k-th of its offers is heard."""
    one, to, last, waits = row
    return (one, to, waits[k], waits[k + 1:])


def row_told(row, offer, width):
    """A row where the house offers this: it waits, unless it is what was told last."""
    one, to, last, waits = row
    if offer == (waits[-1] if waits else last):
        return row
    waits = waits + (offer,)
    # Of more than may wait the oldest is lost.
    return (one, to, last, waits[1:] if len(waits) > width else waits)


def come_by(likings, state, coming, width):
    """The state behind a coming, in the town of these likings."""
    one, to, k = coming
    rows = [row_heard(row, k) if row[:2] == (one, to) else row for row in state]
    way = likings.way_by(to, ways_heard(rows, to))
    return tuple([row_told(row, likings.offer_of(way, row[1]), width) if row[0] == to else row for row in rows])


def come(town, state, coming, width=1):
    """The state behind a coming."""
    return come_by(Likings(town), state, coming, width)


def choice_of(town, state):
    """A dict from all houses to the ways that they go by."""
    likings = Likings(town)
    return {house: likings.way_by(house, ways_heard(state, house)) for house in town[1]}
