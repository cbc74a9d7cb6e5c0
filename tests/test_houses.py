import random
import unittest

import oracle
from restways.houses import House
from restways.lets import marks_of
from samples import all_ties, town

KEEP = ("keep",)
TRIANGLE = town("g", "abg", "ab ag bg")
SQUARE = town("g", "abcg", all_ties("abcg"))


def letter(one, to, nr, way, marks=""):
    """A letter between houses of one letter each: letter("a", "b", 1, "ag", "m")."""
    return (one, to, nr, None if way is None else tuple(way), tuple(marks))


class Base(unittest.TestCase):
    def goes(self, house, way, marks=()):
        self.assertEqual(house.way(), None if way is None else tuple(way))
        self.assertEqual(house.marks(), tuple(marks))


class Begin(Base):
    def test_ahead_of_it(self):
        for name in "abg":
            house = House(TRIANGLE, name)
            self.goes(house, None)
            for other in "abg":
                if other != name:
                    self.assertEqual(house.heard(other), (0, None, ()))

    def test_the_goal(self):
        house = House(TRIANGLE, "g")
        self.assertEqual(house.begin(), [letter("g", "a", 1, "g"), letter("g", "b", 1, "g")])
        self.goes(house, "g")
        self.assertEqual(house.heard("a"), (0, None, ()))

    def test_the_goal_again(self):
        house = House(TRIANGLE, "g")
        house.begin()
        self.assertEqual(house.begin(), [])
        self.goes(house, "g")

    def test_another_house(self):
        house = House(TRIANGLE, "a")
        self.assertEqual(house.begin(), [])
        self.goes(house, None)

    def test_the_goal_whatever_its_likings(self):
        house = House(town("g", "ag", "ag", {"g": [((), None)]}), "g")
        self.assertEqual(house.begin(), [letter("g", "a", 1, "g")])
        self.goes(house, "g")

    def test_the_goal_hands_on_by_its_hands(self):
        hands = [((("to", "a"),), KEEP), ((("to", "b"),), ("put", "m"))]
        house = House(town("g", "abcg", "ag bg cg", {}, {"g": hands}), "g")
        self.assertEqual(house.begin(), [letter("g", "b", 1, "g", "m"), letter("g", "c", 1, "g")])

    def test_tied_houses_alone(self):
        self.assertEqual(House(town("g", "abg", "ab bg"), "g").begin(), [letter("g", "b", 1, "g")])
        self.assertEqual(House(town("g", "g"), "g").begin(), [])

    def test_a_goal_amid_the_houses(self):
        self.assertEqual(House(town("b", "abc", "ab bc"), "b").begin(),
                         [letter("b", "a", 1, "b"), letter("b", "c", 1, "b")])

    def test_the_goal_hears_and_goes_by_its_own(self):
        house = House(TRIANGLE, "g")
        self.assertEqual(house.hear(letter("a", "g", 1, "abg")), [])
        self.goes(house, None)
        house.begin()
        self.assertEqual(house.hear(letter("a", "g", 2, "ag")), [])
        self.goes(house, "g")
        self.assertEqual(house.heard("a"), (2, ("a", "g"), ()))
        # Even a way without the goal in it, and one that the goal would like.
        self.assertEqual(house.hear(letter("b", "g", 1, "bx")), [])
        self.goes(house, "g")


class Hear(Base):
    def begun(self, place, name):
        house = House(place, name)
        self.assertEqual(house.begin(), [])
        return house

    def test_the_first_letter(self):
        house = self.begun(TRIANGLE, "a")
        self.assertEqual(house.hear(letter("g", "a", 1, "g")),
                         [letter("a", "b", 1, "ag"), letter("a", "g", 1, "ag")])
        self.goes(house, "ag")
        self.assertEqual(house.heard("g"), (1, ("g",), ()))
        self.assertEqual(house.heard("b"), (0, None, ()))

    def test_without_begin(self):
        house = House(TRIANGLE, "a")
        self.assertEqual(house.hear(letter("g", "a", 1, "g")),
                         [letter("a", "b", 1, "ag"), letter("a", "g", 1, "ag")])
        self.assertEqual(house.begin(), [])
        self.goes(house, "ag")

    def test_twice(self):
        house = self.begun(TRIANGLE, "a")
        house.hear(letter("g", "a", 1, "g"))
        self.assertEqual(house.hear(letter("g", "a", 1, "g")), [])
        self.goes(house, "ag")

    def test_older_ones_are_passed_over(self):
        house = self.begun(TRIANGLE, "a")
        house.hear(letter("b", "a", 5, "bg", "m"))
        for nr in range(1, 6):
            self.assertEqual(house.hear(letter("b", "a", nr, None)), [])
            self.assertEqual(house.heard("b"), (5, ("b", "g"), ("m",)))
            self.goes(house, "abg", "m")
        self.assertEqual(house.hear(letter("b", "a", 6, None)),
                         [letter("a", "b", 2, None), letter("a", "g", 2, None)])

    def test_nrs_of_each_house_by_themselves(self):
        house = self.begun(TRIANGLE, "a")
        house.hear(letter("b", "a", 5, "bg"))
        self.assertEqual(house.hear(letter("g", "a", 1, "g")),
                         [letter("a", "b", 2, "ag"), letter("a", "g", 2, "ag")])
        self.assertEqual(house.heard("b"), (5, ("b", "g"), ()))
        self.assertEqual(house.heard("g"), (1, ("g",), ()))

    def test_one_that_leaves_out_nrs(self):
        house = self.begun(TRIANGLE, "a")
        house.hear(letter("g", "a", 40, "g"))
        self.assertEqual(house.heard("g"), (40, ("g",), ()))

    def test_one_that_is_liked_less(self):
        house = self.begun(TRIANGLE, "a")
        house.hear(letter("g", "a", 1, "g"))
        self.assertEqual(house.hear(letter("b", "a", 1, "bg")), [])
        self.goes(house, "ag")
        self.assertEqual(house.hear(letter("g", "a", 2, None)),
                         [letter("a", "b", 2, "abg"), letter("a", "g", 2, "abg")])
        self.goes(house, "abg")

    def test_by_worth_then_length_then_the_lesser(self):
        place = town("g", "abcdg", all_ties("abcdg"), {"a": [((("from", "d"),), 3)]})
        house = self.begun(place, "a")
        steps = (("c", "cbg", "acbg"), ("b", "bcg", "abcg"), ("c", "cg", "acg"), ("g", "g", "ag"), ("d", "dcbg", "adcbg"))
        for nr, (one, way, told) in enumerate(steps, 1):
            letters = house.hear(letter(one, "a", nr, way))
            self.goes(house, told)
            self.assertEqual(letters, [letter("a", other, nr, told) for other in "bcdg"])

    def test_a_way_that_holds_the_house_itself(self):
        house = self.begun(TRIANGLE, "a")
        self.assertEqual(house.hear(letter("b", "a", 1, "bag")), [])
        self.goes(house, None)
        self.assertEqual(house.heard("b"), (1, ("b", "a", "g"), ()))
        house.hear(letter("b", "a", 2, "bg"))
        self.goes(house, "abg")
        self.assertEqual(house.hear(letter("b", "a", 3, "bag")),
                         [letter("a", "b", 2, None), letter("a", "g", 2, None)])
        self.goes(house, None)

    def test_worths_of_none(self):
        place = town("g", "abg", "ab ag bg", {"a": [((("from", "g"),), None), ((("mark", "m"),), None)]})
        house = self.begun(place, "a")
        self.assertEqual(house.hear(letter("g", "a", 1, "g")), [])
        self.goes(house, None)
        self.assertEqual(house.hear(letter("b", "a", 1, "bg", "m")), [])
        self.goes(house, None)
        house.hear(letter("b", "a", 2, "bg"))
        self.goes(house, "abg")
        house.hear(letter("b", "a", 3, "bg", "m"))
        self.goes(house, None)

    def test_worths_below_nought_are_taken(self):
        house = self.begun(town("g", "ag", "ag", {"a": [((), -999)]}), "a")
        house.hear(letter("g", "a", 1, "g"))
        self.goes(house, "ag")

    def test_with_the_marks_heard(self):
        place = town("g", "abg", "ab ag bg", {"a": [((("mark", "m"),), 5)]})
        house = self.begun(place, "a")
        house.hear(letter("g", "a", 1, "g"))
        house.hear(letter("b", "a", 1, "bg", "m"))
        self.goes(house, "abg", "m")
        house.hear(letter("b", "a", 2, "bg", "n"))
        self.goes(house, "ag")
        # Marks are those heard, whatever the town's own houses would hand on.
        self.assertEqual(marks_of(place, ("a", "b", "g")), ())

    def test_ways_as_heard_whatever_their_ties(self):
        house = self.begun(town("g", "abg", "ab"), "a")
        house.hear(letter("b", "a", 1, "bxyg"))
        self.goes(house, "abxyg")

    def test_a_way_kept_from_one_and_handed_to_another(self):
        hands = [((("to", "b"),), KEEP), ((("to", "c"),), ("put", "m"))]
        house = self.begun(town("g", "abcg", all_ties("abcg"), {}, {"a": hands}), "a")
        self.assertEqual(house.hear(letter("g", "a", 1, "g")),
                         [letter("a", "c", 1, "ag", "m"), letter("a", "g", 1, "ag")])
        self.goes(house, "ag")

    def test_a_way_that_is_kept_from_then_on(self):
        hands = [((("to", "b"), ("from", "c")), KEEP)]
        place = town("g", "abcg", all_ties("abcg"), {"a": [((("from", "c"),), 5)]}, {"a": hands})
        house = self.begun(place, "a")
        house.hear(letter("g", "a", 1, "g"))
        self.assertEqual(house.hear(letter("c", "a", 1, "cg")),
                         [letter("a", "b", 2, None), letter("a", "c", 2, "acg"), letter("a", "g", 2, "acg")])
        # From none to none: b is told nothing.
        self.assertEqual(house.hear(letter("c", "a", 2, "cbg")),
                         [letter("a", "c", 3, "acbg"), letter("a", "g", 3, "acbg")])
        self.assertEqual(house.hear(letter("c", "a", 3, None)),
                         [letter("a", "b", 3, "ag"), letter("a", "c", 4, "ag"), letter("a", "g", 4, "ag")])

    def test_other_marks_alone_are_told(self):
        hands = [((("to", "b"),), ("strike", "m"))]
        house = self.begun(town("g", "abcg", all_ties("abcg"), {}, {"a": hands}), "a")
        house.hear(letter("g", "a", 1, "g"))
        self.assertEqual(house.hear(letter("g", "a", 2, "g", "m")),
                         [letter("a", "c", 2, "ag", "m"), letter("a", "g", 2, "ag", "m")])
        self.goes(house, "ag", "m")
        self.assertEqual(house.hear(letter("g", "a", 3, "g", "mn")),
                         [letter("a", "b", 2, "ag", "n"), letter("a", "c", 3, "ag", "mn"),
                          letter("a", "g", 3, "ag", "mn")])
        self.assertEqual(house.hear(letter("g", "a", 4, "g", "mn")), [])
        self.assertEqual(house.heard("g"), (4, ("g",), ("m", "n")))

    def test_none_told_where_a_way_goes_away(self):
        house = self.begun(SQUARE, "a")
        house.hear(letter("g", "a", 1, "g", "m"))
        self.assertEqual(house.hear(letter("g", "a", 2, None)), [letter("a", other, 2, None) for other in "bcg"])
        self.goes(house, None)
        self.assertEqual(house.heard("g"), (2, None, ()))
        self.assertEqual(house.hear(letter("g", "a", 3, None)), [])
        self.assertEqual(house.hear(letter("g", "a", 4, "g")), [letter("a", other, 3, "ag") for other in "bcg"])

    def test_letters_in_any_order(self):
        letters = [letter("g", "a", 1, "g"), letter("b", "a", 1, "bg"), letter("b", "a", 2, "bcg"),
                   letter("c", "a", 1, "cbg"), letter("c", "a", 2, "cg", "m"), letter("g", "a", 2, None)]
        chance = random.Random(16)
        for _ in range(50):
            house = self.begun(SQUARE, "a")
            nrs = {other: 0 for other in "bcg"}
            row = letters * 2
            chance.shuffle(row)
            for one in row:
                for told in house.hear(one):
                    nrs[told[1]] += 1
                    self.assertEqual(told[2], nrs[told[1]])
                    self.assertEqual(told[3:], (house.way(), house.marks()))
            self.goes(house, "acg", "m")
            self.assertEqual(house.heard("b"), (2, tuple("bcg"), ()))
            self.assertEqual(house.heard("g"), (2, None, ()))

    def test_lists_are_new(self):
        house = House(TRIANGLE, "g")
        told = house.begin()
        told.clear()
        self.assertEqual(house.begin(), [])
        house = self.begun(TRIANGLE, "a")
        passed = house.hear(letter("g", "a", 0, "g"))
        passed.append("x")
        self.assertEqual(house.hear(letter("g", "a", 0, "g")), [])
        house.hear(letter("g", "a", 1, "g")).clear()
        self.assertEqual(house.hear(letter("g", "a", 2, None))[0], letter("a", "b", 2, None))

    def test_two_houses_have_nothing_in_common(self):
        one, other = self.begun(TRIANGLE, "a"), self.begun(TRIANGLE, "a")
        one.hear(letter("g", "a", 1, "g"))
        self.goes(other, None)
        self.assertEqual(other.heard("g"), (0, None, ()))
        self.assertEqual(other.hear(letter("b", "a", 1, "bg"))[0], letter("a", "b", 1, "abg"))


class AgainstThePlainReckoning(unittest.TestCase):
    def test_letters_of_chance(self):
        chance = random.Random(17)
        for _ in range(60):
            place = oracle.some_town(chance, "abcde", 4, 4)
            ways = list(oracle.all_ways(place))
            name = chance.choice(place[1])
            house, plain = House(place, name), oracle.PlainHouse(place, name)
            self.assertEqual(house.begin(), plain.begin())
            near = plain.near()
            for _ in range(40 if near else 0):
                other = chance.choice(near)
                way = chance.choice([None] + [way for way in ways if way[0] == other])
                marks = () if way is None else chance.choice(((), ("m",), ("m", "n"), ("n",)))
                one = (other, name, chance.randint(1, 30), way, marks)
                self.assertEqual(house.hear(one), plain.hear(one), (place, one))
                self.assertEqual((house.way(), house.marks()), plain.going())
                self.assertEqual([house.heard(one) for one in near], [plain.heard(one) for one in near])


if __name__ == "__main__":
    unittest.main()
