import unittest

from restways.towns import is_town, is_way, tied
from samples import NEVER_RIGHT, all_ties, spoilt, town

FULL = town(
    "g", "abg", "ab ag bg",
    {"a": [((("by", "b"), ("not", ("long", 3))), 5), ((), None)], "g": [((("mark", "m"),), -3)]},
    {"b": [((("to", "a"),), ("put", "m")), ((("from", "g"),), ("keep",))]},
)


class Towns(unittest.TestCase):
    def tells(self, answer, *things):
        for thing in things:
            with self.subTest(thing=repr(thing)):
                self.assertIs(is_town(thing), answer)

    def test_right_ones(self):
        self.tells(True, FULL, town("g", "g"), town("g", "ag"), town("a", "ag", "ag"), town("b", "abg", "ag"))

    def test_how_many_houses(self):
        self.tells(True, town("a", "a"), town("a", "abcdefghij"), town("a", "abcdefghij", all_ties("abcdefghij")))
        self.tells(False, ("a", (), (), (), ()), town("a", "abcdefghijk"))

    def test_houses_alike_or_not_rising(self):
        self.tells(False, town("a", "aa"), town("a", "aab"), town("a", "abb"), town("a", "ba"), town("a", "acb"))

    def test_houses_that_are_no_names(self):
        for name in ("A", "", "if", "and", "not", "never", "abcdefghi", "a b", "z1", None, 1, True, b"z", ("z",)):
            self.tells(False, ("a", ("a", name), (), ((), ()), ((), ())))
            self.tells(False, (name, (name,), (), ((),), ((),)))

    def test_longer_names(self):
        self.tells(True, ("inn", ("inn", "mill"), (("inn", "mill"),), ((), ()), ((), ())))

    def test_the_goal_is_a_house(self):
        self.tells(False, town("b", "a"), town("c", "ab"), town("", "ab"), town("ab", "ab"))
        self.tells(False, *[(goal,) + town("a", "ab")[1:] for goal in (None, True, 0, ("a",), ["a"], b"a")])

    def test_ties(self):
        self.tells(True, town("a", "abc"), town("a", "abc", "bc"), town("a", "abc", "ab bc"), town("a", "abc", "ab ac bc"))

    def test_ties_of_one_house(self):
        self.tells(False, town("a", "abc", "aa"), town("a", "abc", "ab bb"))

    def test_ties_turned_about(self):
        self.tells(False, town("a", "abc", "ba"), town("a", "abc", "ab cb"), town("a", "abc", "ab ba"))

    def test_ties_twice_or_not_rising(self):
        self.tells(False, town("a", "abc", "ab ab"), town("a", "abc", "ab ac ac"), town("a", "abc", "ac ab"))
        self.tells(False, town("a", "abc", "bc ab"))

    def test_ties_of_a_house_that_is_not_there(self):
        self.tells(False, town("a", "abc", "ad"), town("b", "bc", "ab"), town("a", "ac", "ab bc"))

    def test_ties_of_another_form(self):
        for tie in (("a",), ("a", "b", "c"), (), ["a", "b"], "ab", None, ("a", None), ("a", 1), (("a", "b"),)):
            self.tells(False, ("a", ("a", "b", "c"), (tie,), ((), (), ()), ((), (), ())))
        for ties in (None, [], [("a", "b")], {("a", "b")}, "", "ab", ("a", "b"), 0):
            self.tells(False, ("a", ("a", "b", "c"), ties, ((), (), ()), ((), (), ())))

    def test_rows_fewer_or_more(self):
        goal, houses, ties, likings, hands = FULL
        self.tells(False, (goal, houses, ties, likings[:-1], hands), (goal, houses, ties, likings + ((),), hands))
        self.tells(False, (goal, houses, ties, likings, hands[:-1]), (goal, houses, ties, likings, hands + ((),)))
        self.tells(False, (goal, houses, ties, (), hands), (goal, houses, ties, likings, ()))

    def test_rows_changed_about(self):
        goal, houses, ties, likings, hands = FULL
        self.tells(False, (goal, houses, ties, hands, likings), (goal, houses, ties, hands, hands))
        self.tells(False, (goal, houses, ties, likings, likings))

    def test_ninety_rules(self):
        liking, hand = ((("by", "a"),), 5), ((), ("put", "m"))
        self.tells(True, town("a", "ab", "", {"a": [liking] * 90, "b": [liking] * 90}))
        self.tells(True, town("a", "ab", "", {}, {"a": [hand] * 90, "b": [hand] * 90}))
        for house in "ab":
            self.tells(False, town("a", "ab", "", {house: [liking] * 91}), town("a", "ab", "", {}, {house: [hand] * 91}))

    def test_wrong_rules(self):
        wrong = [((), 1000), ((), True), ((("to", "a"),), 5), ((("not", ("to", "a")),), 5), [(), 5], (), None, ((),)]
        for liking in wrong:
            for house in "ab":
                self.tells(False, town("a", "ab", "", {house: [((), 1), liking]}), town("a", "ab", "", {house: [liking]}))
        for hand in [((), ("hold",)), ((), ("put",)), ((), 5), [(), ("keep",)], (), None, ((),)]:
            for house in "ab":
                self.tells(False, town("a", "ab", "", {}, {house: [((), ("keep",)), hand]}))

    def test_houses_in_conds_need_not_be_there(self):
        self.tells(True, town("a", "ab", "", {"a": [((("by", "x"), ("not", ("from", "y"))), 5)]}))
        self.tells(True, town("a", "ab", "", {}, {"b": [((("to", "x"), ("by", "y")), ("keep",))]}))

    def test_a_thing_more_or_fewer(self):
        self.tells(False, (), FULL[:-1], FULL[1:], FULL + ((),), FULL + (None,), (FULL,))

    def test_lists_and_odd_things_at_each_place(self):
        for thing in spoilt(FULL):
            self.assertIs(is_town(thing), False, repr(thing))

    def test_odd_things(self):
        self.tells(False, None, *NEVER_RIGHT)

    def test_asked_again(self):
        self.assertIs(is_town(FULL), is_town(FULL))


class Tied(unittest.TestCase):
    def test_rising_from_both_sides(self):
        star = town("c", "abcde", "ac bc cd ce")
        self.assertEqual(tied(star, "c"), ["a", "b", "d", "e"])
        for house in "abde":
            self.assertEqual(tied(star, house), ["c"])

    def test_each_with_each(self):
        houses = "abcdefghij"
        for house in houses:
            self.assertEqual(tied(town("a", houses, all_ties(houses)), house), [one for one in houses if one != house])

    def test_without_ties(self):
        self.assertEqual(tied(town("a", "a"), "a"), [])
        self.assertEqual(tied(town("a", "abc", "ab"), "c"), [])

    def test_new_each_time(self):
        first = tied(FULL, "a")
        self.assertIsInstance(first, list)
        first.append("x")
        self.assertEqual(tied(FULL, "a"), ["b", "g"])
        empty = tied(town("a", "a"), "a")
        empty.append("x")
        self.assertEqual(tied(town("a", "a"), "a"), [])


class Ways(unittest.TestCase):
    def tells(self, answer, place, *things):
        for thing in things:
            with self.subTest(thing=repr(thing)):
                self.assertIs(is_way(place, thing), answer)

    def test_of_one_to_ten_houses(self):
        chain = town("j", "abcdefghij", "ab bc cd de ef fg gh hi ij")
        for at in range(10):
            self.tells(True, chain, tuple("abcdefghij"[at:]))
        back = town("a", "abcdefghij", "ab bc cd de ef fg gh hi ij")
        for at in range(10):
            self.tells(True, back, tuple("abcdefghij"[:at + 1][::-1]))

    def test_all_of_a_small_town(self):
        self.tells(True, FULL, ("g",), ("a", "g"), ("b", "g"), ("a", "b", "g"), ("b", "a", "g"))

    def test_a_house_twice(self):
        self.tells(False, FULL, ("g", "g"), ("g", "a", "g"), ("a", "b", "a", "g"), ("a", "a", "g"), ("a", "g", "g"))

    def test_untied_neighbours(self):
        place = town("g", "abcg", "ab bg")
        self.tells(True, place, ("b", "g"), ("a", "b", "g"))
        self.tells(False, place, ("a", "g"), ("c", "g"), ("c", "b", "g"), ("a", "c", "g"), ("b", "a", "g"))

    def test_another_end(self):
        self.tells(False, FULL, ("a",), ("b",), ("a", "b"), ("g", "a"), ("a", "g", "b"))

    def test_a_house_that_is_not_there(self):
        self.tells(False, FULL, ("x",), ("x", "g"), ("a", "x", "g"), ("a", "x"))

    def test_other_forms(self):
        self.tells(False, FULL, (), [], ["g"], ["a", "g"], "g", "ag", {"g"}, {"g": 1}, None, 0, b"g", (("g",),))
        for odd in (["a"], None, 0, 1, True, ("a",), b"a", "", "A", {"a"}, {}):
            self.tells(False, FULL, (odd,), (odd, "g"), ("b", odd, "g"), ("a", odd), (odd, odd))

    def test_longer_than_the_town(self):
        self.tells(False, FULL, ("a", "b") * 40 + ("g",))

    def test_odd_things(self):
        self.tells(False, FULL, *NEVER_RIGHT)
        for way in (("g",), ("a", "g"), ("a", "b", "g")):
            self.tells(False, FULL, *spoilt(way))


if __name__ == "__main__":
    unittest.main()
