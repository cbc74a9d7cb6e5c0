import random
import unittest

import oracle
from restways.errors import Forged, HasRing, Needed, NoDeed, NoLetter, NoRow, NoText, RestError, TooMany
from restways.lets import lets, marks_of
from restways.rests import is_rest, offered, rests
from samples import JUST_400, JUST_401, NO_REST, all_ties, town

KEEP = ("keep",)
CHAIN = "abcg"


def chain(likings=None, hands=None):
    """A town in which a hears of b, b of c, c of the goal."""
    return town("g", CHAIN, "ab bc cg", likings, hands)


class MarksOf(unittest.TestCase):
    def test_the_goal(self):
        for likings in ([], [((), None)], [((), -5)], [((("by", "g"),), None)]):
            self.assertEqual(marks_of(town("g", "g", "", {"g": likings}), ("g",)), ())
            self.assertEqual(marks_of(chain({"g": likings}), ("c", "g")), ())

    def test_the_goals_own_marks_are_none(self):
        self.assertEqual(marks_of(chain({}, {"g": [((), ("put", "m"))]}), ("g",)), ())

    def test_without_rules_all_are_let(self):
        for at in range(4):
            self.assertEqual(marks_of(chain(), tuple(CHAIN[at:])), ())

    def test_a_piece_that_is_kept(self):
        for keeper, let in (("a", 4), ("b", 3), ("c", 2), ("g", 1)):
            place = chain({}, {keeper: [((), KEEP)]})
            told = [marks_of(place, way) for way in (("g",), ("c", "g"), ("b", "c", "g"), ("a", "b", "c", "g"))]
            self.assertEqual(told, [()] * let + [None] * (4 - let))

    def test_kept_from_one_house_alone(self):
        place = town("g", "abg", "ab ag bg", {}, {"g": [((("to", "a"),), KEEP)]})
        self.assertIsNone(marks_of(place, ("a", "g")))
        self.assertIsNone(marks_of(place, ("b", "a", "g")))
        self.assertEqual(marks_of(place, ("b", "g")), ())
        self.assertEqual(marks_of(place, ("a", "b", "g")), ())

    def test_a_piece_of_worth_none(self):
        for never, let in (("a", 3), ("b", 2), ("c", 1), ("g", 4)):
            place = chain({never: [((), None)]})
            told = [marks_of(place, way) for way in (("g",), ("c", "g"), ("b", "c", "g"), ("a", "b", "c", "g"))]
            self.assertEqual(told, [()] * let + [None] * (4 - let))

    def test_a_worth_below_nought_is_let(self):
        self.assertEqual(marks_of(chain({"c": [((), -999)], "b": [((), 0)]}), ("b", "c", "g")), ())

    def test_marks_are_handed_along(self):
        hands = {"g": [((), ("put", "m"))], "c": [((("mark", "m"),), ("put", "k"))], "b": [((), ("strike", "m"))]}
        place = chain({}, hands)
        self.assertEqual(marks_of(place, ("c", "g")), ("m",))
        self.assertEqual(marks_of(place, ("b", "c", "g")), ("k", "m"))
        self.assertEqual(marks_of(place, ("a", "b", "c", "g")), ("k",))

    def test_marks_hang_on_the_way(self):
        place = town("g", "abg", "ab ag bg", {}, {"g": [((("to", "b"),), ("put", "m"))]})
        self.assertEqual(marks_of(place, ("a", "g")), ())
        self.assertEqual(marks_of(place, ("a", "b", "g")), ("m",))
        self.assertEqual(marks_of(place, ("b", "g")), ("m",))
        self.assertEqual(marks_of(place, ("b", "a", "g")), ())

    def test_the_worth_is_with_the_marks_handed(self):
        hands = {"g": [((), ("put", "m"))], "c": [((), ("strike", "m"))]}
        place = chain({"c": [((("mark", "m"),), 3), ((), None)], "b": [((("mark", "m"),), None)]}, hands)
        self.assertEqual(marks_of(place, ("c", "g")), ("m",))
        self.assertEqual(marks_of(place, ("b", "c", "g")), ())
        self.assertIsNone(marks_of(chain({"b": [((("mark", "m"),), None)]}, {"g": hands["g"]}), ("b", "c", "g")))

    def test_against_the_plain_reckoning(self):
        chance = random.Random(1)
        for _ in range(150):
            place = oracle.some_town(chance, "abcde", 3, 3)
            marks = oracle.let_marks(place)
            for way in oracle.all_ways(place):
                self.assertEqual(marks_of(place, way), marks.get(way), (place, way))


class Lets(unittest.TestCase):
    def test_one_house(self):
        self.assertEqual(lets(town("g", "g")), {"g": [("g",)]})
        self.assertEqual(lets(town("g", "g", "", {"g": [((), None)]})), {"g": [("g",)]})

    def test_all_houses_are_keys(self):
        place = town("g", "abcg", "ag", {"c": [((), 5)]})
        self.assertEqual(lets(place), {"a": [("a", "g")], "b": [], "c": [], "g": [("g",)]})

    def test_a_goal_amid_the_houses(self):
        place = town("b", "abc", "ab bc", {"b": [((), None)]})
        self.assertEqual(lets(place), {"a": [("a", "b")], "b": [("b",)], "c": [("c", "b")]})

    def test_the_most_liked_first(self):
        houses = "abcg"
        likings = [((("long", 3), ("from", "c")), 9), ((("from", "b"),), 4), ((("mark", "m"),), 7)]
        place = town("g", houses, all_ties(houses), {"a": likings}, {"g": [((("to", "a"),), ("put", "m"))]})
        told = [("a", "c", "b", "g"), ("a", "g"), ("a", "b", "g"), ("a", "b", "c", "g"), ("a", "c", "g")]
        self.assertEqual(lets(place)["a"], told)
        self.assertEqual(lets(place)["b"], [("b", "g"), ("b", "a", "g"), ("b", "c", "g"), ("b", "a", "c", "g"), ("b", "c", "a", "g")])

    def test_what_is_kept_or_never_taken_is_left_out(self):
        place = town("g", "abg", "ab ag bg", {"a": [((("by", "b"),), None)]}, {"a": [((("to", "b"),), KEEP)]})
        self.assertEqual(lets(place), {"a": [("a", "g")], "b": [("b", "g")], "g": [("g",)]})

    def test_new_each_time(self):
        first = lets(NO_REST)
        kept = {house: list(ways) for house, ways in first.items()}
        for ways in first.values():
            ways.clear()
        first.clear()
        self.assertEqual(lets(NO_REST), kept)
        for place in (town("g", "g"), town("g", "ag")):
            for ways in lets(place).values():
                ways.append("x")
            self.assertEqual(lets(place), {house: [("g",)] if house == "g" else [] for house in place[1]})

    def test_against_the_plain_reckoning(self):
        chance = random.Random(2)
        for _ in range(150):
            place = oracle.some_town(chance, "abcde", 3, 3)
            self.assertEqual(lets(place), oracle.lets(place), place)


class HowMany(unittest.TestCase):
    def refused(self, question):
        with self.assertRaises(TooMany) as caught:
            question(JUST_401)
        self.assertIsInstance(caught.exception, RestError)
        self.assertIsInstance(caught.exception, ValueError)
        self.assertNotIsInstance(caught.exception, (HasRing, NoLetter, Needed, NoDeed, Forged, NoText, NoRow))

    def test_the_towns_let_as_many(self):
        self.assertEqual(len(oracle.let_marks(JUST_400)), 400)
        self.assertEqual(len(oracle.let_marks(JUST_401)), 401)

    def test_just_400(self):
        told = lets(JUST_400)
        self.assertEqual(sum(len(ways) for ways in told.values()), 400)
        self.assertEqual(told, oracle.lets(JUST_400))
        self.assertEqual(len(rests(JUST_400)), 1)

    def test_one_more(self):
        self.refused(lets)
        self.refused(rests)

    def test_far_more(self):
        houses = "abcdefghij"
        for question in (lets, rests):
            with self.assertRaises(TooMany):
                question(town("a", houses, all_ties(houses)))

    def test_what_is_not_refused(self):
        self.assertEqual(marks_of(JUST_401, ("z", "a", "b", "g")), ())
        self.assertIsNone(marks_of(JUST_401, ("z", "g")))
        choice = {house: (house, "g") for house in "abcde"}
        choice.update({"g": ("g",), "z": ("z", "a", "g")})
        self.assertEqual(offered(JUST_401, choice, "z"), [("z", "a", "g"), ("z", "b", "g"), ("z", "c", "g")])
        self.assertIs(is_rest(JUST_401, choice), True)
        choice["z"] = ("z", "b", "g")
        self.assertIs(is_rest(JUST_401, choice), False)


if __name__ == "__main__":
    unittest.main()
