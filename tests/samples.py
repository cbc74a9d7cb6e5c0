"""Towns and odd things for the tests."""


def town(goal, houses, ties="", likings=None, hands=None):
    """A town of houses of one letter each: town("g", "abg", "ag bg", {"a": (..)}, {"b": (..)})."""
    likings = likings or {}
    hands = hands or {}
    return (
        goal,
        tuple(houses),
        tuple(tuple(pair) for pair in ties.split()),
        tuple(tuple(likings.get(house, ())) for house in houses),
        tuple(tuple(hands.get(house, ())) for house in houses),
    )


def all_ties(houses):
    """The ties, as town takes them, of each two of houses."""
    return " ".join(a + b for at, a in enumerate(houses) for b in houses[at + 1:])


def nested(kind, depth):
    """A list or tuple, so many within one another."""
    thing = kind(())
    for _ in range(depth - 1):
        thing = kind((thing,))
    return thing


def nested_dict(depth):
    thing = {}
    for _ in range(depth - 1):
        thing = {"not": thing}
    return thing


def nested_not(depth):
    thing = ("by", "a")
    for _ in range(depth - 1):
        thing = ("not", thing)
    return thing


class Plain:
    """An object without anything."""


class Alike:
    """Says that it is like anything, and can be no key."""

    __hash__ = None

    def __eq__(self, other):
        return True


class Sore:
    """Can't be compared at all."""

    def __eq__(self, other):
        raise RuntimeError("compared")

    def __lt__(self, other):
        raise RuntimeError("compared")

    def __hash__(self):
        raise RuntimeError("hashed")

    def __bool__(self):
        raise RuntimeError("asked for its truth")

    def __len__(self):
        raise RuntimeError("asked for its length")


def a_generator():
    yield "a"


# None of these is right at any place of a name, cond, liking, hand, town or way.
NEVER_RIGHT = (
    True, False, 10 ** 40, -(10 ** 40), 1000, -1000,
    "", "A", "a1", "a b", "a\n", "a.", "abcdefghi", "never", "\u00e9", "\ud800",
    b"", b"a", bytearray(b"a"), [], ["a"], ["by", "a"], [[]], {}, {"a": "b"}, {"by", "a"}, set(), frozenset(),
    range(3), slice(1), object(), Plain(), Plain, Alike(), Alike, Sore(), Sore, len, int, tuple, str, print,
    lambda: None, a_generator(), iter(()), NotImplemented, Ellipsis, ValueError(), ValueError, memoryview(b"a"),
    nested(list, 60), nested(tuple, 60), nested_dict(60), nested_not(60), ("by", nested(tuple, 59)),
    (1,), (None,), ("a", "b", "c", "d", "e", "f"), (Alike(), Alike()), (Sore(), Sore()), ("by", Alike()),
    ("not", Sore()), (Alike(), "a"), ((), Alike()), ((), Sore()), (Sore(), None),
)


def places(thing, ahead=()):
    """The places of a thing and of all within it, each a tuple of numbers."""
    found = [ahead]
    if isinstance(thing, tuple):
        for at, part in enumerate(thing):
            found.extend(places(part, ahead + (at,)))
    return found


def part_at(thing, place):
    for at in place:
        thing = thing[at]
    return thing


def put_at(thing, place, part):
    """Thing with another part at a place."""
    if not place:
        return part
    at = place[0]
    return thing[:at] + (put_at(thing[at], place[1:], part),) + thing[at + 1:]


def spoilt(thing):
    """What comes of a right thing where one place of it holds an odd thing, or a list in place of a tuple."""
    for place in places(thing):
        for odd in NEVER_RIGHT:
            yield put_at(thing, place, odd)
        part = part_at(thing, place)
        if isinstance(part, tuple):
            yield put_at(thing, place, list(part))


def upto(other, ties):
    """The conds of ways that come from other and have at most so many ties."""
    return (("from", other), ("not", ("long", ties + 1)))


def crowded(more):
    """A town of seven houses, each with each tied, that lets 326 ways of six and just the likings more of z."""
    houses = "abcdegz"
    z_likings = [(conds, 0) for conds in more] + [((), None)]
    return town("g", houses, all_ties(houses), {"z": z_likings}, {"z": [((), ("keep",))]})


# Of the 326 ways of a, b, c, d, e, g, z hears 65 from each house but g, and one from g.
JUST_400 = crowded([(("from", "a"),), upto("b", 3), upto("c", 2), upto("d", 2), upto("e", 2), (("from", "g"),)])
JUST_401 = crowded([(("from", "a"),), upto("b", 3), upto("c", 3)])


def via(other):
    """Likings of a house that likes the way by other straight to the goal g, then its own straight one, no more."""
    return [((("from", other), ("not", ("long", 3))), 2), ((("from", "g"),), 1), ((), None)]


# Either of the two would rather go by the other: two rests.
TWO_RESTS = town("g", "abg", "ab ag bg", {"a": via("b"), "b": via("a")})
# Each of the three would rather go by the next, round about: no rest.
NO_REST = town("g", "abcg", "ab ac ag bc bg cg", {"a": via("b"), "b": via("c"), "c": via("a")})
# Four times two houses that would rather go by one another, and one by itself: ten houses, sixteen rests.
SIXTEEN_RESTS = town(
    "g", "abcdefghij", "ab ag bg cd cg dg ef eg fg gh gi gj hi",
    {"a": via("b"), "b": via("a"), "c": via("d"), "d": via("c"),
     "e": via("f"), "f": via("e"), "h": via("i"), "i": via("h")},
)


# Names of several letters, with the same letters in several of them.
LONG_NAMES = ("home", ("hill", "home", "hut", "mill"), (("hill", "home"), ("hill", "hut"), ("home", "hut"), ("hut", "mill")),
              ((((("from", "hut"),), 2),), (), (), ()), ((), (), (((("to", "mill"),), ("put", "dusty")),), ()))


def wheel(rim):
    """A town of houses round the goal g, each of which likes the way by the next one more than its own."""
    nexts = dict(zip(rim, rim[1:] + rim[:1]))
    ties = {"".join(sorted(pair)) for pair in nexts.items()} | {"".join(sorted(one + "g")) for one in rim}
    return town("g", sorted(rim + "g"), " ".join(sorted(ties)), {one: via(nexts[one]) for one in rim})


def turned(ring, at):
    """A ring turned round to begin at another of its ways."""
    return ring[at:-1] + ring[:at] + [ring[at]]
