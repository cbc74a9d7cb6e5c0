import itertools
import random
import unittest

import oracle
from restways.kin import elder_ring, keeps_kin
from restways.kintowns import kin_town
from restways.lets import lets
from restways.rings import ranks, ring
from restways.towns import is_town
from test_kin import KEEP, kin, rank_kin, some_kin


def likes(**worths):
    """Likings by the second house, in order: likes(a=5, b=100)."""
    return tuple(((("from", other),), worth) for other, worth in worths.items())


def keeps(*pairs):
    """Hands that keep what comes from one from another, in order: keeps("ab")."""
    return tuple(((("from", one), ("to", other)), KEEP) for one, other in pairs)


class KinTown(unittest.TestCase):
    def test_the_goal_alone(self):
        self.assertEqual(kin_town("g", (), {}), ("g", ("g",), (), ((),), ((),)))
        self.assertEqual(kin_town("home", (), {("home", "a"): 5, ("a", "home"): 7}), ("home", ("home",), (), ((),), ((),)))

    def test_one_tie(self):
        for rows, of_a, of_g in (("a>g", 100, 0), ("g>a", 0, 100), ("a=g", 0, 0)):
            self.assertEqual(kin_town("g", kin(rows), {}),
                             ("g", ("a", "g"), (("a", "g"),), (likes(g=of_a), likes(a=of_g)), ((), ())))

    def test_fond(self):
        fond = {("a", "g"): 7, ("g", "a"): 99, ("a", "b"): 5, ("b", "g"): 9, ("x", "y"): 3}
        told = kin_town("g", kin("a>g"), fond)
        self.assertEqual(told[3], (likes(g=107), likes(a=99)))
        self.assertEqual(kin_town("g", kin("g>a"), fond)[3], (likes(g=7), likes(a=199)))
        self.assertEqual(kin_town("g", kin("a=g"), {("a", "g"): 0})[3], (likes(g=0), likes(a=0)))
        self.assertEqual(fond, {("a", "g"): 7, ("g", "a"): 99, ("a", "b"): 5, ("b", "g"): 9, ("x", "y"): 3})

    def test_a_goal_that_is_not_in_kin(self):
        told = kin_town("b", kin("a>c"), {})
        self.assertEqual(told, ("b", ("a", "b", "c"), (("a", "c"),), (likes(c=100), (), likes(a=0)), ((), (), ())))

    def test_several(self):
        # a is over b, beside c, under d; c is over d.
        told = kin_town("c", kin("a>b a=c d>a c>d"), {("a", "c"): 3, ("a", "b"): 4, ("d", "a"): 6, ("b", "c"): 50})
        self.assertEqual(told[:3], ("c", tuple("abcd"), (("a", "b"), ("a", "c"), ("a", "d"), ("c", "d"))))
        self.assertEqual(told[3], (likes(b=104, c=3, d=0), likes(a=0), likes(a=0, d=100), likes(a=106, c=0)))
        self.assertEqual(told[4], (keeps("cd", "dc"), (), (), ()))

    def test_hands_in_order(self):
        told = kin_town("g", kin("b>a c>a a=d a>e g>a"), {})
        self.assertEqual(told[4][0], keeps("bc", "bd", "bg", "cb", "cd", "cg", "db", "dc", "dg", "gb", "gc", "gd"))
        self.assertEqual(told[4][1:], ((),) * 5)
        self.assertEqual(told[3][0], likes(b=0, c=0, d=0, e=100, g=0))

    def test_names_of_several_letters(self):
        rows = (("hall", "hut", "over"), ("hut", "mill", "equal"), ("mill", "hall", "over"))
        told = kin_town("hut", rows, {("hut", "mill"): 12})
        self.assertEqual(told, (
            "hut", ("hall", "hut", "mill"), (("hall", "hut"), ("hall", "mill"), ("hut", "mill")),
            (likes(hut=100, mill=0), likes(hall=0, mill=12), likes(hall=100, hut=0)),
            ((), (((("from", "hall"), ("to", "mill")), KEEP), ((("from", "mill"), ("to", "hall")), KEEP)), ())))
        self.assertIs(is_town(told), True)

    def test_ten_houses(self):
        rows = tuple(sorted(tuple(pair) + ("equal",) for pair in itertools.combinations("abcdefghij", 2)))
        told = kin_town("j", rows, {pair: 99 for pair in itertools.permutations("abcdefghij", 2)})
        self.assertIs(is_town(told), True)
        self.assertEqual({len(hands) for hands in told[4]}, {72})
        # Equals hand on to equals nothing but their own.
        self.assertEqual(lets(told)["a"], [tuple("aj")])
        self.assertIs(keeps_kin(told, rows), True)

    def test_of_chance(self):
        chance = random.Random(83)
        rings = 0
        for turn in range(250):
            houses = "abcdef"[:chance.randint(2, 6)]
            rows = some_kin(chance, houses, 0.8) if turn % 2 else rank_kin(chance, houses, 0.6)
            fond = {pair: chance.randint(0, 99) for pair in itertools.permutations("abcdefg", 2) if chance.random() < 0.5}
            told = kin_town(chance.choice(houses), rows, fond)
            self.assertIs(is_town(told), True)
            self.assertEqual(told, kin_town(told[0], rows, fond))
            if elder_ring(rows) is None:
                self.assertIs(keeps_kin(told, rows), True)
                self.assertIsNone(ring(told))
                self.assertEqual(ranks(told), oracle.ranks(told))
            else:
                rings += 1
                self.assertIs(keeps_kin(told, rows), False)
        self.assertGreater(rings, 20)


if __name__ == "__main__":
    unittest.main()
