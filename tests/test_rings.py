import random
import unittest

import oracle
from restways.counts import mosts
from restways.errors import HasRing, RestError, TooMany
from restways.rests import rests
from restways.rings import ranks, rest, ring
from samples import JUST_400, JUST_401, LONG_NAMES, NO_REST, TWO_RESTS, all_ties, town, via, wheel

TRIANGLE = town("g", "abg", "ab ag bg")
# a likes what b hands it with the mark m, which b puts only where it comes straight from g.
MARKED = town("g", "abg", "ab ag bg", {"a": [((("mark", "m"),), 5)]},
              {"b": [((("from", "g"), ("to", "a")), ("put", "m"))]})


def choice(**ways):
    return {house: None if way is None else tuple(way) for house, way in ways.items()}


class Base(unittest.TestCase):
    def is_ring(self, place, told):
        onward = oracle.leads_on(place)
        self.assertIsInstance(told, list)
        self.assertGreaterEqual(len(told), 3)
        self.assertEqual(told[0], told[-1])
        self.assertEqual(len(set(told)), len(told) - 1)
        for one, other in zip(told, told[1:]):
            self.assertIn(other, onward[one])


class Ring(Base):
    def test_wheels(self):
        for many in range(2, 7):
            place = wheel("abcdef"[:many])
            self.is_ring(place, ring(place))
            self.assertIsNone(ranks(place))

    def test_a_wheel_of_ten_houses(self):
        place = wheel("abcdefhij")
        self.is_ring(place, ring(place))
        self.assertIsNone(ranks(place))

    def test_two_that_like_one_another(self):
        told = ring(TWO_RESTS)
        self.is_ring(TWO_RESTS, told)
        # The only ring there is, wherever it begins: a's straight way, b's by a, b's straight way, a's by b.
        self.assertEqual(set(told), {("a", "g"), ("b", "a", "g"), ("b", "g"), ("a", "b", "g")})
        self.assertEqual(len(told), 5)

    def test_a_ring_though_there_is_just_one_rest(self):
        # The ways by one another would go round, but a's straight one is never left: c's is liked most.
        likings = {"a": [((("from", "c"),), 9)] + via("b"), "b": via("a"), "c": [((("by", "b"),), None)]}
        place = town("g", "abcg", "ab ac ag bg cg", likings)
        self.assertEqual(len(rests(place)), 1)
        self.is_ring(place, ring(place))
        self.assertIsNone(ranks(place))
        with self.assertRaises(HasRing):
            rest(place)

    def test_a_ring_far_from_the_goal(self):
        likings = {house: [((("from", other),), 5)] for house, other in ("ab", "ba")}
        place = town("g", "abcdg", "ab ac bc cd dg", likings)
        self.is_ring(place, ring(place))
        told = ring(place)
        self.assertTrue(all(way[0] in "ab" for way in told), told)

    def test_no_ring(self):
        for place in (town("g", "g"), town("g", "abg"), TRIANGLE, MARKED, town("j", "abcdefghij", "ab bc cd de ij")):
            self.assertIsNone(ring(place))
            self.assertIsNotNone(ranks(place))

    def test_ways_that_are_not_let_make_no_ring(self):
        place = town("g", "abg", "ab ag bg", {"a": via("b"), "b": via("a")}, {"a": [((("to", "b"),), ("keep",))]})
        self.assertIsNone(ring(place))

    def test_new_each_time(self):
        first = ring(NO_REST)
        kept = list(first)
        first.clear()
        self.assertEqual(ring(NO_REST), kept)

    def test_either_a_ring_or_ranks(self):
        chance = random.Random(11)
        seen = [0, 0]
        for _ in range(150):
            for place in (oracle.some_town(chance, "abcde", 3, 2), oracle.unruly_town(chance, "abcd")):
                told = ring(place)
                by_hand = oracle.ranks(place)
                self.assertEqual(ranks(place), by_hand, place)
                self.assertEqual(told is None, by_hand is not None, place)
                if told is not None:
                    self.is_ring(place, told)
                seen[told is None] += 1
        self.assertGreater(min(seen), 50)


class Ranks(unittest.TestCase):
    def test_one_house(self):
        self.assertEqual(ranks(town("g", "g")), {("g",): 0})
        self.assertEqual(ranks(town("g", "g", "", {"g": [((), None)]})), {("g",): 0})

    def test_houses_without_a_way(self):
        self.assertEqual(ranks(town("g", "abg", "ab")), {("g",): 0})

    def test_a_row_of_houses(self):
        self.assertEqual(ranks(town("g", "abg", "ab bg")), {("g",): 0, ("b", "g"): 1, ("a", "b", "g"): 2})

    def test_a_triangle(self):
        # a likes its straight way more, which leads on to b's by a, and so does b's straight one.
        self.assertEqual(ranks(TRIANGLE), {
            ("g",): 0, ("a", "g"): 1, ("b", "g"): 1, ("a", "b", "g"): 2, ("b", "a", "g"): 2})

    def test_liked_less_is_greater(self):
        self.assertEqual(ranks(MARKED), {
            ("g",): 0, ("b", "g"): 1, ("a", "b", "g"): 2, ("a", "g"): 3, ("b", "a", "g"): 4})

    def test_two_of_one_house_far_apart(self):
        place = town("g", "abcg", "ab ag bc cg", {"a": [((("from", "b"),), 5)], "c": [((("from", "b"),), None)]},
                     {"a": [((), ("keep",))]})
        self.assertEqual(ranks(place), {
            ("g",): 0, ("c", "g"): 1, ("b", "c", "g"): 2, ("a", "b", "c", "g"): 3, ("a", "g"): 4})

    def test_new_each_time(self):
        ranks(TRIANGLE).clear()
        self.assertEqual(len(ranks(TRIANGLE)), 5)

    def test_400_ways(self):
        told = ranks(JUST_400)
        self.assertEqual(told, oracle.ranks(JUST_400))
        self.assertEqual(len(told), 400)


class Rest(Base):
    def test_of_plain_towns(self):
        self.assertEqual(rest(town("g", "g")), choice(g="g"))
        self.assertEqual(rest(town("g", "abg", "ab")), choice(a=None, b=None, g="g"))
        self.assertEqual(rest(TRIANGLE), choice(a="ag", b="bg", g="g"))
        self.assertEqual(rest(MARKED), choice(a="abg", b="bg", g="g"))

    def test_one_that_is_liked_most_but_never_offered(self):
        likings = {"a": [((("by", "c"),), 5)], "b": [((("by", "a"),), None)], "c": [((("by", "b"),), None)]}
        place = town("g", "abcg", "ab ag bc bg cg", likings)
        self.assertEqual(rest(place), choice(a="ag", b="bg", c="cg", g="g"))

    def test_the_only_one_that_rests_tells(self):
        chance = random.Random(12)
        many = 0
        for _ in range(120):
            place = oracle.some_town(chance, "abcde", 3, 2)
            if ranks(place) is None:
                with self.assertRaises(HasRing):
                    rest(place)
            else:
                self.assertEqual(rests(place), [rest(place)], place)
                many += 1
        self.assertGreater(many, 40)
        self.assertEqual(rests(JUST_400), [rest(JUST_400)])

    def test_new_each_time(self):
        rest(TRIANGLE).clear()
        self.assertEqual(rest(TRIANGLE), choice(a="ag", b="bg", g="g"))

    def test_refused_where_there_is_a_ring(self):
        for place in (TWO_RESTS, NO_REST, wheel("abcdefhij")):
            for question in (rest, mosts):
                with self.assertRaises(HasRing) as caught:
                    question(place)
                self.assertIsInstance(caught.exception, RestError)
                self.is_ring(place, caught.exception.ring)
                caught.exception.ring.clear()
            self.assertIsNotNone(ring(place))


class LongNames(unittest.TestCase):
    def test_names_of_several_letters(self):
        self.assertIsNone(ring(LONG_NAMES))
        self.assertEqual(ranks(LONG_NAMES), oracle.ranks(LONG_NAMES))
        self.assertEqual(rests(LONG_NAMES), [rest(LONG_NAMES)])
        self.assertEqual(mosts(LONG_NAMES), oracle.mosts(LONG_NAMES))
        self.assertEqual(sorted(mosts(LONG_NAMES)), ["hill", "home", "hut", "mill"])


class TooManyWays(unittest.TestCase):
    def test_all_are_refused(self):
        houses = "abcdefghij"
        # The second and third have rings among their ways, too: TooMany goes first.
        rather = {house: [((("from", "b"),), 5)] for house in houses}
        for place in (JUST_401, town("a", houses, all_ties(houses)), town("a", houses, all_ties(houses), rather)):
            for question in (ring, ranks, rest, mosts):
                with self.assertRaises(TooMany):
                    question(place)

    def test_just_400_is_not(self):
        self.assertIsNone(ring(JUST_400))
        self.assertEqual(sorted(rest(JUST_400)), sorted(JUST_400[1]))
        self.assertEqual(sorted(mosts(JUST_400)), sorted(JUST_400[1]))


if __name__ == "__main__":
    unittest.main()
