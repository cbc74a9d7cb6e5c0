import random
import unittest

import oracle
from restways.counts import mosts
from restways.rings import ranks
from samples import JUST_400, all_ties, town


class Mosts(unittest.TestCase):
    def test_one_house(self):
        self.assertEqual(mosts(town("g", "g")), {"g": 1})
        self.assertEqual(mosts(town("g", "g", "", {"g": [((), None)]})), {"g": 1})

    def test_houses_without_a_let_way(self):
        self.assertEqual(mosts(town("g", "abcg", "ab cg", {"c": [((), None)]})), {"a": 0, "b": 0, "c": 0, "g": 1})

    def test_a_row_of_houses(self):
        self.assertEqual(mosts(town("d", "abcd", "ab bc cd")), {"a": 1, "b": 1, "c": 1, "d": 1})

    def test_a_triangle(self):
        # a: its straight way is of g's 1, the one by b of b's straight one, 1 more.
        self.assertEqual(mosts(town("g", "abg", "ab ag bg")), {"a": 2, "b": 2, "g": 1})

    def test_the_least_liked_one_counts_all(self):
        # b: bcg 1, then bg 1 + 1 = 2. a: abg with b's 2, then abcg with b's 1 more.
        place = town("g", "abcg", "ab bc bg cg", {"b": [((("from", "c"),), 5)], "c": [((("by", "b"),), None)]})
        self.assertEqual(mosts(place), {"a": 3, "b": 2, "c": 1, "g": 1})

    def test_ways_that_are_not_let_count_nothing(self):
        place = town("g", "abcg", "ab bc bg cg", {"b": [((("from", "c"),), 5)], "c": [((("by", "b"),), None)]},
                     {"b": [((("from", "c"),), ("keep",))]})
        self.assertEqual(mosts(place), {"a": 2, "b": 2, "c": 1, "g": 1})

    def test_great_ones(self):
        # Of i: ij 1. Of h: hij 1, hj 2. Of g: ghj 2, ghij 3, gij 4. Of f: fghj 2, fgij 6, fghij 9, fhj 11, fhij 12.
        houses = "abcdefghij"
        ties = " ".join([a + b for a, b in zip(houses, houses[1:])] + [a + b for a, b in zip(houses, houses[2:])])
        likings = {house: [((("from", after),), 5), ((("from", far),), 0), ((), None)]
                   for house, after, far in zip(houses, houses[1:], houses[2:] + "x")}
        place = town("j", houses, ties, likings)
        told = mosts(place)
        self.assertEqual([told[house] for house in "jihgf"], [1, 1, 2, 4, 12])
        self.assertEqual(told, oracle.mosts(place))
        self.assertEqual(told["a"], 852555)

    def test_as_the_document_says_them(self):
        chance = random.Random(15)
        many = 0
        for _ in range(150):
            place = oracle.some_town(chance, "abcde", 3, 2)
            if ranks(place) is not None:
                self.assertEqual(mosts(place), oracle.mosts(place), place)
                many += 1
        self.assertGreater(many, 40)
        self.assertEqual(mosts(JUST_400), oracle.mosts(JUST_400))

    def test_new_each_time(self):
        place = town("g", "abcg", all_ties("abcg"), {house: [((("long", 3),), None)] for house in "abc"})
        told = mosts(place)
        kept = dict(told)
        told.clear()
        self.assertEqual(mosts(place), kept)
        self.assertEqual(list(kept), list("abcg"))


if __name__ == "__main__":
    unittest.main()
