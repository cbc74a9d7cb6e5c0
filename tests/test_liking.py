import unittest

from restways.liking import likes_more, worth
from samples import all_ties, town

HOUSES = "abcg"


def liked_by_a(*likings):
    return town("g", HOUSES, all_ties(HOUSES), {"a": likings})


class Worth(unittest.TestCase):
    def test_the_first_that_holds_counts(self):
        place = liked_by_a(((("by", "b"),), 5), ((("by", "c"),), 7), ((), -2))
        self.assertEqual(worth(place, ("a", "b", "g"), ()), 5)
        self.assertEqual(worth(place, ("a", "b", "c", "g"), ()), 5)
        self.assertEqual(worth(place, ("a", "c", "g"), ()), 7)
        self.assertEqual(worth(place, ("a", "g"), ()), -2)

    def test_whatever_stands_behind_it(self):
        for behind in (((), 999), ((), None), ((("by", "b"),), -999)):
            place = liked_by_a(((("by", "b"),), 5), behind)
            self.assertEqual(worth(place, ("a", "b", "g"), ()), 5)

    def test_all_conds_must_hold(self):
        conds = (("from", "b"), ("mark", "m"), ("long", 2), ("not", ("by", "c")))
        place = liked_by_a((conds, 9), ((("by", "b"),), 4))
        self.assertEqual(worth(place, ("a", "b", "g"), ("m",)), 9)
        self.assertEqual(worth(place, ("a", "b", "g"), ("n",)), 4)
        self.assertEqual(worth(place, ("a", "b", "c", "g"), ("m",)), 4)
        self.assertEqual(worth(place, ("a", "c", "b", "g"), ("m",)), 4)
        self.assertEqual(worth(place, ("a", "g"), ("m",)), 0)

    def test_none(self):
        place = liked_by_a(((("mark", "m"),), None), ((), 3))
        self.assertIsNone(worth(place, ("a", "g"), ("m",)))
        self.assertEqual(worth(place, ("a", "g"), ("n",)), 3)

    def test_a_worth_of_nought_counts(self):
        place = liked_by_a(((), 0), ((), 3))
        self.assertEqual(worth(place, ("a", "g"), ()), 0)

    def test_nought_without_one(self):
        self.assertEqual(worth(liked_by_a(), ("a", "g"), ()), 0)
        self.assertEqual(worth(liked_by_a(((("by", "b"),), 5)), ("a", "g"), ()), 0)
        self.assertEqual(worth(liked_by_a(((("by", "b"),), None)), ("a", "g"), ()), 0)

    def test_the_likings_of_its_own_house(self):
        place = town("g", HOUSES, all_ties(HOUSES), {"a": [((), 1)], "b": [((), 2)], "c": [((), 3)], "g": [((), 4)]})
        told = [worth(place, way, ()) for way in (("a", "b", "g"), ("b", "a", "g"), ("c", "a", "g"), ("g",))]
        self.assertEqual(told, [1, 2, 3, 4])

    def test_ninety_likings(self):
        place = liked_by_a(*([((("by", "x"),), 1)] * 89 + [((("by", "b"),), 90)]))
        self.assertEqual(worth(place, ("a", "b", "g"), ()), 90)
        self.assertEqual(worth(place, ("a", "g"), ()), 0)

    def test_the_ends_of_worths(self):
        for told in (-999, 999):
            self.assertEqual(worth(liked_by_a(((), told)), ("a", "g"), ()), told)


class LikesMore(unittest.TestCase):
    def more(self, place, one, other):
        self.assertIs(likes_more(place, one, other), True)
        self.assertIs(likes_more(place, other, one), False)

    def test_by_worth(self):
        place = liked_by_a(((("by", "c"),), 5), ((("by", "b"),), -5))
        self.more(place, (("a", "c", "g"), ()), (("a", "g"), ()))
        self.more(place, (("a", "g"), ()), (("a", "b", "g"), ()))
        self.more(place, (("a", "b", "c", "g"), ()), (("a", "b", "g"), ()))

    def test_by_the_worth_with_marks(self):
        place = liked_by_a(((("mark", "m"),), 5))
        self.more(place, (("a", "c", "g"), ("m",)), (("a", "g"), ("n",)))
        self.more(place, (("a", "g"), ("m",)), (("a", "g"), ()))

    def test_of_like_worth_by_fewer_houses(self):
        place = liked_by_a(((("mark", "m"),), 0))
        self.more(place, (("a", "g"), ()), (("a", "b", "g"), ()))
        self.more(place, (("a", "c", "g"), ()), (("a", "b", "c", "g"), ("m",)))

    def test_of_as_many_by_the_lesser(self):
        place = liked_by_a()
        self.more(place, (("a", "b", "g"), ()), (("a", "c", "g"), ()))
        self.more(place, (("a", "b", "c", "g"), ("z",)), (("a", "c", "b", "g"), ("m",)))

    def test_longer_names_compare_as_texts(self):
        ties = (("ab", "b"), ("ab", "g"), ("abc", "b"), ("abc", "g"), ("b", "g"))
        place = ("g", ("ab", "abc", "b", "g"), ties, ((),) * 4, ((),) * 4)
        self.more(place, (("b", "ab", "g"), ()), (("b", "abc", "g"), ()))

    def test_one_way_of_like_worth(self):
        place = liked_by_a(((("mark", "m"),), 0))
        for one, other in (((), ("m",)), (("m",), ("n",)), ((), ())):
            pair = ((("a", "b", "g"), one), (("a", "b", "g"), other))
            self.assertIs(likes_more(place, pair[0], pair[1]), False)
            self.assertIs(likes_more(place, pair[1], pair[0]), False)


if __name__ == "__main__":
    unittest.main()
