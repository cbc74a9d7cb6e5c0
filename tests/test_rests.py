import random
import unittest

import oracle
from restways.rests import is_rest, offered, rests
from samples import NO_REST, SIXTEEN_RESTS, TWO_RESTS, all_ties, town, via

KEEP = ("keep",)
TRIANGLE = town("g", "abg", "ab ag bg")


def choice(**ways):
    """A choice of houses of one letter each: choice(a="ag", b=None)."""
    return {house: None if way is None else tuple(way) for house, way in ways.items()}


class Offered(unittest.TestCase):
    def test_the_most_liked_first(self):
        place = town("g", "abcg", all_ties("abcg"), {"a": [((("from", "c"),), 5)]})
        self.assertEqual(
            offered(place, choice(a=None, b="bg", c="cg", g="g"), "a"),
            [("a", "c", "g"), ("a", "g"), ("a", "b", "g")],
        )

    def test_liked_with_the_marks_of_the_way(self):
        place = town("g", "abg", "ab ag bg", {"a": [((("mark", "m"),), 5)]}, {"b": [((), ("put", "m"))]})
        self.assertEqual(offered(place, choice(a=None, b="bg", g="g"), "a"), [("a", "b", "g"), ("a", "g")])

    def test_from_tied_houses_alone(self):
        place = town("g", "abcg", "ab bc bg cg")
        self.assertEqual(offered(place, choice(a=None, b="bg", c="cg", g="g"), "a"), [("a", "b", "g")])

    def test_none_offers_nothing(self):
        self.assertEqual(offered(TRIANGLE, choice(a=None, b=None, g="g"), "a"), [("a", "g")])
        self.assertEqual(offered(TRIANGLE, choice(a=None, b="bg", g=None), "a"), [("a", "b", "g")])
        self.assertEqual(offered(TRIANGLE, choice(a="ag", b=None, g=None), "a"), [])

    def test_a_way_by_the_house_itself(self):
        self.assertEqual(offered(TRIANGLE, choice(a="ag", b="bag", g="g"), "a"), [("a", "g")])

    def test_what_is_not_let(self):
        place = town("g", "abg", "ab ag bg", {"a": [((("from", "g"),), None)]}, {"b": [((("to", "a"),), KEEP)]})
        self.assertEqual(offered(place, choice(a=None, b="bg", g="g"), "a"), [])
        self.assertEqual(offered(place, choice(a=None, b="bg", g="g"), "b"), [("b", "g")])

    def test_without_ties(self):
        self.assertEqual(offered(town("g", "abg", "bg"), choice(a=None, b="bg", g="g"), "a"), [])

    def test_the_goal(self):
        self.assertEqual(offered(TRIANGLE, choice(a="ag", b="bag", g="g"), "g"), [])

    def test_each_once_against_the_plain_reckoning(self):
        chance = random.Random(3)
        for _ in range(25):
            place = oracle.some_town(chance, "abcd", 3, 2)
            marks = oracle.let_marks(place)
            for one in list(oracle.all_choices(place))[::7]:
                for house in set(place[1]) - {place[0]}:
                    near = [other for other in place[1] if tuple(sorted((house, other))) in place[2]]
                    ways = [(house,) + one[other] for other in near if one[other] is not None]
                    told = oracle.order(place, [way for way in ways if way in marks], marks)
                    self.assertEqual(offered(place, one, house), told)

    def test_nothing_is_changed_and_each_list_is_new(self):
        one = choice(a="ag", b="bg", g="g")
        first = offered(TRIANGLE, one, "a")
        self.assertIsInstance(first, list)
        first.clear()
        self.assertEqual(one, choice(a="ag", b="bg", g="g"))
        self.assertEqual(offered(TRIANGLE, one, "a"), [("a", "g"), ("a", "b", "g")])


class IsRest(unittest.TestCase):
    def tells(self, answer, place, **ways):
        one = choice(**ways)
        self.assertIs(is_rest(place, one), answer)
        self.assertEqual(one, choice(**ways))
        self.assertIs(is_rest(place, one), answer)

    def test_one_house(self):
        self.tells(True, town("g", "g"), g="g")
        self.tells(True, town("g", "g", "", {"g": [((), None)]}), g="g")
        self.tells(False, town("g", "g"), g=None)

    def test_the_goals_way(self):
        self.tells(True, TRIANGLE, a="ag", b="bg", g="g")
        self.tells(False, TRIANGLE, a="ag", b="bg", g=None)
        self.tells(False, TRIANGLE, a=None, b=None, g=None)

    def test_a_less_liked_one(self):
        self.tells(False, TRIANGLE, a="ag", b="bag", g="g")
        self.tells(False, TRIANGLE, a="abg", b="bg", g="g")

    def test_none_where_something_is_offered(self):
        self.tells(False, TRIANGLE, a=None, b="bg", g="g")
        self.tells(False, town("g", "ag", "ag"), a=None, g="g")

    def test_none_where_nothing_is_offered(self):
        self.tells(True, town("g", "abg", "ag"), a="ag", b=None, g="g")
        self.tells(True, town("g", "abg", "ab ag", {"b": [((), None)]}), a="ag", b=None, g="g")
        self.tells(True, town("g", "ag", "ag", {}, {"g": [((), KEEP)]}), a=None, g="g")

    def test_one_that_is_not_offered(self):
        self.tells(False, TWO_RESTS, a="abg", b="bag", g="g")
        self.tells(True, TWO_RESTS, a="abg", b="bg", g="g")
        self.tells(True, TWO_RESTS, a="ag", b="bag", g="g")
        self.tells(False, TWO_RESTS, a="ag", b="bg", g="g")
        chain = town("g", "abg", "ab bg")
        self.tells(True, chain, a="abg", b="bg", g="g")
        self.tells(False, chain, a="abg", b=None, g="g")

    def test_against_the_plain_reckoning(self):
        chance = random.Random(4)
        for _ in range(40):
            place = oracle.some_town(chance, "abcd", 3, 2)
            marks = oracle.let_marks(place)
            for one in oracle.all_choices(place):
                if chance.random() < 0.2:
                    self.assertIs(is_rest(place, one), oracle.is_rest(place, one, marks), (place, one))


class Rests(unittest.TestCase):
    def test_one_house(self):
        self.assertEqual(rests(town("g", "g")), [{"g": ("g",)}])
        self.assertEqual(rests(town("g", "g", "", {"g": [((), None)]})), [{"g": ("g",)}])

    def test_one(self):
        self.assertEqual(rests(TRIANGLE), [choice(a="ag", b="bg", g="g")])

    def test_none_of_them(self):
        self.assertEqual(rests(NO_REST), [])

    def test_houses_without_a_way(self):
        self.assertEqual(rests(town("g", "abg", "ag")), [choice(a="ag", b=None, g="g")])
        self.assertEqual(rests(town("g", "abg", "ab")), [choice(a=None, b=None, g="g")])

    def test_two_sorted(self):
        self.assertEqual(rests(TWO_RESTS), [choice(a="abg", b="bg", g="g"), choice(a="ag", b="bag", g="g")])

    def test_none_is_sorted_as_the_empty_tuple(self):
        place = town("g", "abg", "ab ag bg", {"a": [((("by", "b"),), None)], "b": via("a")},
                     {"g": [((("to", "a"),), KEEP)]})
        self.assertEqual(rests(place), oracle.rests(place))
        self.assertEqual(rests(place), [choice(a=None, b="bg", g="g")])
        # Here c hears of b alone, which only hands on its straight way: c goes by none where b goes by a.
        place = town("g", "abcg", "ab ag bc bg", {"a": via("b"), "b": via("a")}, {"b": [((("long", 2),), KEEP)]})
        self.assertEqual(rests(place), [
            choice(a="abg", b="bg", c="cbg", g="g"), choice(a="ag", b="bag", c=None, g="g")])
        place = town("g", "abcg", "ab bc bg cg", {"b": via("c"), "c": via("b")}, {"b": [((("long", 2),), KEEP)]})
        self.assertEqual(rests(place), [
            choice(a=None, b="bcg", c="cg", g="g"), choice(a="abg", b="bg", c="cbg", g="g")])

    def test_many_of_ten_houses(self):
        told = rests(SIXTEEN_RESTS)
        self.assertEqual(len(told), 16)
        keys = [tuple(one[house] for house in SIXTEEN_RESTS[1]) for one in told]
        self.assertEqual(keys, sorted(set(keys)))
        for one in told:
            self.assertEqual(sorted(one), list("abcdefghij"))
            self.assertIs(is_rest(SIXTEEN_RESTS, one), True)
            self.assertEqual(one["j"], ("j", "g"))

    def test_ten_houses_of_which_three_never_rest(self):
        likings = {"a": via("b"), "b": via("c"), "c": via("a"), "e": via("f"), "f": via("e")}
        place = town("g", "abcdefghij", "ab ac ag bc bg cg dg ef eg fg gh hi ij", likings)
        self.assertEqual(rests(place), [])

    def test_ten_houses_in_a_row(self):
        houses = "abcdefghij"
        place = town("j", houses, "ab bc cd de ef fg gh hi ij")
        self.assertEqual(rests(place), [{house: tuple(houses[at:]) for at, house in enumerate(houses)}])

    def test_ten_houses_each_with_each_tied(self):
        houses = "abcdefghij"
        short = [((("long", 3),), None)]
        place = town("a", houses, all_ties(houses), {house: short for house in houses})
        told = {house: (house, "a") if house != "a" else ("a",) for house in houses}
        self.assertEqual(rests(place), [told])
        # Each would rather go by any other than straight, so just one of them goes straight.
        rather = [((("long", 3),), None), ((("long", 2),), 5)]
        place = town("a", houses, all_ties(houses), {house: rather for house in houses})
        told = rests(place)
        self.assertEqual(len(told), 9)
        self.assertEqual([one for one in told if not is_rest(place, one)], [])
        straight = sorted(house for one in told for house, way in one.items() if way == (house, "a"))
        self.assertEqual(straight, list(houses[1:]))

    def test_marks_count(self):
        likings = {"a": [((("mark", "m"),), 5), ((("by", "b"),), None)], "b": [((("mark", "m"),), 5)]}
        place = town("g", "abg", "ab ag bg", likings, {"a": [((), ("put", "m"))], "b": [((), ("put", "m"))]})
        self.assertEqual(rests(place), oracle.rests(place))
        self.assertEqual(rests(place), [choice(a="abg", b="bg", g="g"), choice(a="ag", b="bag", g="g")])

    def test_against_the_plain_reckoning(self):
        chance = random.Random(5)
        for _ in range(200):
            place = oracle.some_town(chance, "abcd", 9, 1)
            self.assertEqual(rests(place), oracle.rests(place), place)

    def test_unruly_towns_against_the_plain_reckoning(self):
        chance = random.Random(5)
        many = set()
        for _ in range(400):
            place = oracle.unruly_town(chance, "abcd")
            told = rests(place)
            self.assertEqual(told, oracle.rests(place), place)
            many.add(len(told))
        self.assertTrue({0, 1, 2, 3} <= many, many)

    def test_larger_towns_against_trying_all_next_houses(self):
        chance = random.Random(6)
        for _ in range(8):
            for place in (oracle.some_town(chance, "abcdef", 9, 1), oracle.unruly_town(chance, "abcdef")):
                self.assertEqual(rests(place), oracle.rests_by_next_house(place), place)

    def test_new_each_time(self):
        first = rests(TWO_RESTS)
        kept = [dict(one) for one in first]
        self.assertIsNot(first[0], first[1])
        for one in first:
            one.clear()
        first.clear()
        self.assertEqual(rests(TWO_RESTS), kept)


if __name__ == "__main__":
    unittest.main()
