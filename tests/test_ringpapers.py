import random
import unittest

import oracle
from restways.errors import TooMany
from restways.ringpapers import shows_ranks, shows_ring
from restways.rings import ranks, ring
from samples import JUST_400, JUST_401, NEVER_RIGHT, NO_REST, TWO_RESTS, Alike, Sore, nested, town, turned, wheel

TRIANGLE = town("g", "abg", "ab ag bg")
RING = [tuple("ag"), tuple("bag"), tuple("bg"), tuple("abg"), tuple("ag")]


class Collides:
    """Has the same hash as something else, and can't be compared."""

    def __init__(self, other):
        self.number = hash(other)

    def __hash__(self):
        return self.number

    def __eq__(self, other):
        raise RuntimeError("compared")


class ShowsRing(unittest.TestCase):
    def tells(self, answer, place, thing):
        self.assertIs(shows_ring(place, thing), answer, thing)

    def test_what_ring_told(self):
        for place in (TWO_RESTS, NO_REST, wheel("abcdefhij")):
            told = ring(place)
            self.tells(True, place, told)
            self.assertEqual(told, ring(place))

    def test_one_written_by_hand(self):
        self.tells(True, TWO_RESTS, RING[:-1] + RING[:1])
        # b's way by a is liked more than its straight one: the walk the other way about leads nowhere.
        self.tells(False, TWO_RESTS, RING[::-1])

    def test_turned_round(self):
        for place in (TWO_RESTS, NO_REST):
            told = ring(place)
            for at in range(len(told) - 1):
                self.tells(True, place, turned(told, at))

    def test_over_what_is_liked_far_less(self):
        # From a's most liked way to its least liked one at a stroke.
        likings = {"a": [((("from", "b"),), 9), ((("from", "c"),), 8)], "b": [((("from", "a"),), 9)]}
        place = town("g", "abcg", "ab ac ag bg cg", likings)
        self.tells(True, place, [tuple("bg"), tuple("abg"), tuple("ag"), tuple("bag"), tuple("bg")])
        self.tells(True, place, [tuple("bg"), tuple("abg"), tuple("acg"), tuple("ag"), tuple("bag"), tuple("bg")])
        self.tells(False, place, [tuple("bg"), tuple("abg"), tuple("ag"), tuple("acg"), tuple("bag"), tuple("bg")])

    def test_cut_short(self):
        self.tells(False, TWO_RESTS, RING[:-1])
        self.tells(False, TWO_RESTS, RING[1:])
        for at in range(1, 4):
            self.tells(False, TWO_RESTS, RING[:at] + RING[at + 1:])

    def test_with_a_way_twice(self):
        self.tells(False, TWO_RESTS, RING + RING[1:])
        self.tells(False, TWO_RESTS, RING[:2] + RING[1:])
        # Two rings by one way: each of them alone is one.
        likings = {"a": [((("from", "b"),), 9), ((("from", "c"),), 8)],
                   "b": [((("from", "a"),), 9)], "c": [((("from", "a"),), 9)]}
        place = town("g", "abcg", "ab ac ag bg cg", likings)
        by_b = [tuple("ag"), tuple("bag"), tuple("bg"), tuple("abg"), tuple("ag")]
        by_c = [tuple("ag"), tuple("cag"), tuple("cg"), tuple("acg"), tuple("ag")]
        self.tells(True, place, by_b)
        self.tells(True, place, by_c)
        both = by_b + by_c[1:]
        for at in range(len(both) - 1):
            self.tells(False, place, turned(both, at))

    def test_short_ones(self):
        self.tells(False, TWO_RESTS, [])
        self.tells(False, TWO_RESTS, [tuple("ag")])
        self.tells(False, TWO_RESTS, [tuple("ag"), tuple("ag")])
        self.tells(False, TWO_RESTS, [tuple("ag"), tuple("bag"), tuple("ag")])
        self.tells(False, TWO_RESTS, [tuple("ag"), tuple("ag"), tuple("ag")])

    def test_open_ones(self):
        self.tells(False, TWO_RESTS, [tuple("g"), tuple("ag"), tuple("bag"), tuple("bg")])
        self.tells(False, TWO_RESTS, RING + [tuple("bag")])

    def test_ways_that_are_not_let(self):
        place = town("g", "abg", "ab ag bg", {"a": [((("from", "b"),), 5)], "b": [((("from", "a"),), 5)]})
        self.tells(True, place, RING)
        for house, hand in (("a", (("to", "b"),)), ("g", (("to", "b"),))):
            kept = town("g", "abg", "ab ag bg", {"a": place[3][0], "b": place[3][1]}, {house: [(hand, ("keep",))]})
            self.tells(False, kept, RING)
        self.tells(False, town("g", "abg", "ab ag", {"a": place[3][0], "b": place[3][1]}), RING)
        never = town("g", "abg", "ab ag bg", {"a": [((("from", "g"),), None)], "b": place[3][1]})
        self.tells(False, never, RING)

    def test_other_kinds(self):
        self.tells(False, TWO_RESTS, tuple(RING))
        self.tells(False, TWO_RESTS, {at: way for at, way in enumerate(RING)})
        self.tells(False, TWO_RESTS, [list(way) for way in RING])
        self.tells(False, TWO_RESTS, ["".join(way) for way in RING])
        self.tells(False, TWO_RESTS, set(RING))

    def test_odd_things(self):
        for odd in NEVER_RIGHT:
            self.tells(False, TWO_RESTS, odd)
            self.tells(False, TRIANGLE, odd)
            self.tells(False, TWO_RESTS, [odd] * 3)
            self.tells(False, TWO_RESTS, [(odd, "g"), (odd, "g"), (odd, "g")])
            for at in range(len(RING)):
                self.tells(False, TWO_RESTS, RING[:at] + [odd] + RING[at + 1:])
        self.tells(False, TWO_RESTS, None)
        self.tells(False, TWO_RESTS, RING * 10000)

    def test_where_there_are_ranks(self):
        self.tells(False, TRIANGLE, RING)
        self.tells(False, town("g", "g"), [("g",), ("g",), ("g",)])

    def test_all_walks_of_a_small_town(self):
        onward = oracle.leads_on(TWO_RESTS)
        ways = sorted(onward) + [tuple("gg"), tuple("bab")]
        walks = [[way] for way in ways]
        for _ in range(3):
            walks = [walk + [way] for walk in walks for way in ways]
            for walk in walks:
                right = walk[0] == walk[-1] and len(set(walk)) == len(walk) - 1 and len(walk) > 2 and all(
                    other in onward.get(one, ()) for one, other in zip(walk, walk[1:]))
                self.tells(right, TWO_RESTS, walk)

    def test_too_many(self):
        for thing in ([], None, RING, Sore(), 5):
            with self.assertRaises(TooMany):
                shows_ring(JUST_401, thing)
        self.tells(False, JUST_400, [])

    def test_of_rings_of_chance(self):
        chance = random.Random(13)
        many = 0
        for _ in range(80):
            place = oracle.unruly_town(chance, "abcd")
            told = ring(place)
            if told is not None:
                many += 1
                self.tells(True, place, told)
                self.tells(False, place, told[:-1])
                self.tells(False, place, told[::-1])
        self.assertGreater(many, 20)


class ShowsRanks(unittest.TestCase):
    def tells(self, answer, place, thing):
        self.assertIs(shows_ranks(place, thing), answer, thing)

    def test_what_ranks_told(self):
        for place in (town("g", "g"), town("g", "abg"), TRIANGLE, JUST_400):
            told = ranks(place)
            self.tells(True, place, told)
            self.assertEqual(told, ranks(place))

    def test_greater_ones(self):
        told = ranks(TRIANGLE)
        self.tells(True, TRIANGLE, {way: rank * 10 ** 30 + 7 for way, rank in told.items()})
        self.tells(True, TRIANGLE, {way: rank - 99 for way, rank in told.items()})
        self.tells(True, TRIANGLE, {**told, ("b", "a", "g"): 99})

    def test_in_any_order_of_keys(self):
        self.tells(True, TRIANGLE, dict(sorted(ranks(TRIANGLE).items(), reverse=True)))

    def test_alike_or_falling(self):
        onward = oracle.leads_on(TRIANGLE)
        told = {way: 10 * rank for way, rank in ranks(TRIANGLE).items()}
        for one in onward:
            for other in onward[one]:
                self.tells(False, TRIANGLE, {**told, one: told[other]})
                self.tells(False, TRIANGLE, {**told, one: told[other] + 1})
                self.tells(False, TRIANGLE, {**told, other: told[one]})
                self.tells(False, TRIANGLE, {**told, other: told[one] - 1})

    def test_a_key_fewer_or_more(self):
        told = ranks(TRIANGLE)
        for way in told:
            less = {one: rank for one, rank in told.items() if one != way}
            self.tells(False, TRIANGLE, less)
            for other in (None, "x", (), ("b", "b", "g"), ("x", "g"), 5, frozenset()):
                self.tells(False, TRIANGLE, {**less, other: 5})
                self.tells(False, TRIANGLE, {**told, other: 5})
        self.tells(False, TRIANGLE, {})

    def test_ways_that_are_not_let(self):
        kept = town("g", "abg", "ab ag bg", {}, {"a": [((), ("keep",))]})
        self.tells(False, kept, ranks(TRIANGLE))
        self.tells(False, TRIANGLE, ranks(kept))
        swapped = {way: rank for way, rank in ranks(TRIANGLE).items() if way != ("b", "g")}
        self.tells(False, town("g", "abg", "ab ag"), swapped | {("b", "g"): 1})
        self.tells(False, kept, {("g",): 0, ("a", "g"): 1, ("b", "g"): 1, ("b", "a", "g"): 2})
        self.tells(True, kept, {("g",): 0, ("a", "g"): 1, ("b", "g"): 1, ("a", "b", "g"): 2})

    def test_other_values(self):
        told = ranks(TRIANGLE)
        self.assertEqual((told[("g",)], told[("a", "g")]), (0, 1))
        self.tells(False, TRIANGLE, {**told, ("g",): False})
        self.tells(False, TRIANGLE, {**told, ("a", "g"): True})
        for odd in NEVER_RIGHT + (None, "1", b"1", (1,), [1]):
            if isinstance(odd, int) and not isinstance(odd, bool):
                continue
            for way in told:
                self.tells(False, TRIANGLE, {**told, way: odd})

    def test_odd_things(self):
        told = ranks(TRIANGLE)
        for odd in NEVER_RIGHT + (None, list(told.items()), tuple(told), RING, nested(list, 60)):
            self.tells(False, TRIANGLE, odd)
            self.tells(False, TWO_RESTS, odd)
        for way in told:
            less = {one: rank for one, rank in told.items() if one != way}
            self.tells(False, TRIANGLE, {**less, Collides(way): 5})
            self.tells(False, TRIANGLE, {Collides(way): 5, **less})
            self.tells(False, TRIANGLE, {**less, (Collides(way[0]),) + way[1:]: 5})
        self.tells(False, TRIANGLE, {**told, ("g",): Alike()})

    def test_where_there_is_a_ring(self):
        for place in (TWO_RESTS, NO_REST):
            self.tells(False, place, {way: len(way) for way in oracle.let_marks(place)})
            self.tells(False, place, {})
            self.tells(False, place, None)

    def test_too_many(self):
        for thing in ({}, None, {("g",): 0}, Sore(), 5):
            with self.assertRaises(TooMany):
                shows_ranks(JUST_401, thing)

    def test_of_ranks_of_chance(self):
        chance = random.Random(14)
        many = 0
        for _ in range(100):
            place = oracle.some_town(chance, "abcd", 3, 2)
            onward = oracle.leads_on(place)
            told = ranks(place)
            for _ in range(10):
                guess = dict(told or {way: len(way) for way in onward})
                guess[chance.choice(sorted(guess))] += chance.choice((-2, -1, 1, 2))
                right = all(guess[one] < guess[other] for one in onward for other in onward[one])
                self.tells(right, place, guess)
                many += right
        self.assertGreater(many, 100)


if __name__ == "__main__":
    unittest.main()
