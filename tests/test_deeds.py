import unittest

from restways.deeds import houses_named, is_deed, town_behind
from restways.towns import is_town
from samples import NEVER_RIGHT, Alike, Sore, nested, spoilt, town

PLACE = town("g", "abcg", "ab ag", {"b": [((), 3)]}, {"b": [((), ("keep",))]})
LIKINGS = (((("by", "a"), ("not", ("mark", "m"))), 5), ((), None))
HANDS = (((("to", "a"),), ("put", "m")), ((), ("keep",)))
RIGHT = (
    ("tie", "a", "c"), ("tie", "c", "a"), ("tie", "g", "c"), ("untie", "a", "b"), ("untie", "g", "a"),
    ("like", "a", ()), ("like", "b", (((), 3),)), ("like", "g", LIKINGS), ("like", "a", LIKINGS * 45),
    ("hand", "a", ()), ("hand", "b", (((), ("keep",)),)), ("hand", "g", HANDS), ("hand", "a", HANDS * 45),
)
WRONG = (
    ("tie", "a", "b"), ("tie", "b", "a"), ("tie", "a", "a"), ("tie", "a", "d"), ("tie", "d", "a"), ("tie", "d", "e"),
    ("untie", "a", "c"), ("untie", "c", "a"), ("untie", "a", "a"), ("untie", "a", "d"), ("untie", "d", "a"),
    ("tie",), ("tie", "a"), ("tie", "a", "c", "g"), ("untie", "a"), ("untie", "a", "b", "c"), ("untie",),
    ("like", "d", ()), ("like", "a"), ("like", "a", (), ()), ("like", "a", LIKINGS[0]), ("like", "a", None),
    ("like", "a", list(LIKINGS)), ("like", "a", LIKINGS * 45 + LIKINGS[:1]), ("like", "a", HANDS), ("like", "a", "b"),
    ("like", "a", (((("to", "a"),), 5),)), ("like", "a", (((), 1000),)), ("like", "a", (((), True),)),
    ("hand", "d", ()), ("hand", "a"), ("hand", "a", (), ()), ("hand", "a", HANDS[0]), ("hand", "a", None),
    ("hand", "a", list(HANDS)), ("hand", "a", HANDS * 45 + HANDS[:1]), ("hand", "a", LIKINGS), ("hand", "a", "b"),
    ("Tie", "a", "c"), ("keep", "a", "c"), ("", "a", "c"), ("unt", "a", "b"), ("likes", "a", ()), (b"tie", "a", "c"),
    ["tie", "a", "c"], ("tie", ["a"], "c"), ("tie", ("a", "c")), "tie a c", None, 0, (), ("tie", "a", None),
    ("like", None, ()), ("like", Alike(), ()), (Alike(), "a", "c"), (Sore(), "a", "c"), ("tie", Sore(), "c"),
    ("tie", "a", Sore()), ("tie", "a", Alike()), ("like", "a", nested(tuple, 58)), ("hand", "a", (Sore(),)),
)


class IsDeed(unittest.TestCase):
    def test_right_ones(self):
        for deed in RIGHT:
            self.assertIs(is_deed(PLACE, deed), True, deed)

    def test_wrong_ones(self):
        for thing in WRONG + NEVER_RIGHT:
            self.assertIs(is_deed(PLACE, thing), False)

    def test_spoilt_ones(self):
        for deed in (("tie", "a", "c"), ("untie", "a", "b"), ("like", "a", LIKINGS), ("hand", "a", HANDS)):
            self.assertIs(is_deed(PLACE, deed), True)
            for thing in spoilt(deed):
                self.assertIs(is_deed(PLACE, thing), False, repr(thing))


class TownBehind(unittest.TestCase):
    def test_ties(self):
        for deed in (("tie", "b", "c"), ("tie", "c", "b")):
            self.assertEqual(houses_named(deed), ["b", "c"])
            self.assertEqual(town_behind(PLACE, deed), PLACE[:2] + ((("a", "b"), ("a", "g"), ("b", "c")),) + PLACE[3:])
        for deed in (("untie", "a", "b"), ("untie", "b", "a")):
            self.assertEqual(town_behind(PLACE, deed), PLACE[:2] + ((("a", "g"),),) + PLACE[3:])
        self.assertEqual(town_behind(PLACE, ("tie", "c", "a"))[2], (("a", "b"), ("a", "c"), ("a", "g")))

    def test_rules(self):
        self.assertEqual(houses_named(("like", "b", ())), ["b"])
        self.assertEqual(town_behind(PLACE, ("like", "b", LIKINGS)), PLACE[:3] + (((), LIKINGS, (), ()), PLACE[4]))
        self.assertEqual(town_behind(PLACE, ("like", "g", LIKINGS))[3], ((), (((), 3),), (), LIKINGS))
        self.assertEqual(town_behind(PLACE, ("hand", "a", HANDS)),
                         PLACE[:4] + ((HANDS, (((), ("keep",)),), (), ()),))
        self.assertEqual(town_behind(PLACE, ("hand", "b", ()))[4], ((), (), (), ()))

    def test_a_town_comes_of_each(self):
        for deed in RIGHT:
            self.assertIs(is_town(town_behind(PLACE, deed)), True)


if __name__ == "__main__":
    unittest.main()
