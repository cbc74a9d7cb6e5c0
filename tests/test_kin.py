import itertools
import random
import unittest

import oracle
from restways.errors import TooMany
from restways.kin import elder_ring, is_kin, keeps_kin
from restways.kintowns import kin_town
from restways.rings import ranks, ring
from samples import JUST_400, JUST_401, NEVER_RIGHT, Alike, Sore, nested, spoilt, town, turned

KEEP = ("keep",)


def kin(text):
    """Kin of houses of one letter each: kin("a>b b=c"), in rising order."""
    rows = [(pair[0], pair[2], {">": "over", "=": "equal"}[pair[1]]) for pair in text.split()]
    return tuple(sorted(rows))


class IsKin(unittest.TestCase):
    def tells(self, answer, thing):
        self.assertIs(is_kin(thing), answer, repr(thing))

    def test_right_ones(self):
        self.tells(True, ())
        self.tells(True, (("a", "b", "over"),))
        self.tells(True, (("b", "a", "over"),))
        self.tells(True, (("a", "b", "equal"),))
        self.tells(True, kin("a>b b>c c>a"))
        self.tells(True, kin("a=b a>c b>c d>a"))
        self.tells(True, (("hall", "hut", "over"), ("hut", "mill", "equal"), ("mill", "hall", "over")))
        self.tells(True, (("equal", "over", "equal"), ("over", "a", "over")))
        names = ["".join(pair) for pair in itertools.product("abcdefgh", "klmnopq")]
        self.tells(True, tuple(sorted((one, other, "equal") for one, other in itertools.combinations(names, 2))))

    def test_two_rows_of_the_same_two(self):
        self.tells(False, (("a", "b", "equal"), ("a", "b", "over")))
        self.tells(False, (("a", "b", "equal"), ("b", "a", "over")))
        self.tells(False, (("a", "b", "over"), ("b", "a", "over")))
        self.tells(False, (("a", "b", "over"), ("a", "b", "over")))
        self.tells(False, (("a", "b", "equal"), ("a", "b", "equal")))
        self.tells(False, (("a", "b", "over"), ("a", "c", "over"), ("b", "a", "over")))

    def test_equals_rise(self):
        self.tells(False, (("b", "a", "equal"),))
        self.tells(False, (("a", "a", "equal"),))
        self.tells(False, (("a", "a", "over"),))

    def test_rows_rise(self):
        rows = kin("a>b b=c c>d d>a")
        for other in itertools.permutations(rows):
            self.tells(other == rows, other)
        self.tells(False, (("b", "c", "equal"), ("a", "c", "over")))
        self.tells(True, (("a", "c", "over"), ("b", "c", "equal")))

    def test_words(self):
        for word in ("under", "Over", "OVER", "", "over ", "equals", "child", b"over", None, 0, True, ("over",), "a"):
            self.tells(False, (("a", "b", word),))

    def test_names(self):
        for name in ("", "A", "never", "if", "and", "not", "abcdefghi", "a b", "1", None, 0, b"b", ("b",), ["b"]):
            self.tells(False, (("a", name, "over"),))
            self.tells(False, ((name, "zz", "over"),))
            self.tells(False, ((name, "zz", "equal"),))

    def test_other_kinds(self):
        self.tells(False, [])
        self.tells(False, [("a", "b", "over")])
        self.tells(False, (["a", "b", "over"],))
        self.tells(False, ("a", "b", "over"))
        self.tells(False, (("a", "b"),))
        self.tells(False, (("a", "b", "over", "over"),))
        self.tells(False, ((),))
        self.tells(False, ("abo",))
        self.tells(False, None)
        self.tells(False, "")
        self.tells(False, {("a", "b", "over"): True})

    def test_odd_things(self):
        for odd in NEVER_RIGHT + (nested(list, 60), (Sore(),), (Alike(),), (("a", "b", Sore()),), (("a", "b", Alike()),)):
            self.tells(False, odd)
        for thing in spoilt(kin("a>b b=c c>d")):
            self.tells(False, thing)


def some_kin(chance, houses, share):
    """Kin by chance, with so great a share of all pairs."""
    rows = []
    for one, other in itertools.combinations(houses, 2):
        if chance.random() < share:
            rows.append(chance.choice(((one, other, "over"), (other, one, "over"), (one, other, "equal"))))
    return tuple(sorted(rows))


def rank_kin(chance, houses, share):
    """Kin by chance without a ring of elders: houses that are mixed up, elders ahead of their children."""
    order = chance.sample(houses, len(houses))
    rows = []
    for one, other in itertools.combinations(order, 2):
        if chance.random() < share:
            rows.append((one, other, "over") if chance.random() < 0.7 else tuple(sorted((one, other))) + ("equal",))
    return tuple(sorted(rows))


def has_elder_ring(rows):
    """Whether taking away whoever has no elder left leaves somebody."""
    left = {name for row in rows for name in row[:2]}
    free = True
    while free:
        free = {name for name in left if not any(row[1] == name and row[2] == "over" and row[0] in left for row in rows)}
        left -= free
    return bool(left)


class ElderRing(unittest.TestCase):
    def is_ring(self, rows, told):
        self.assertIs(type(told), list)
        self.assertGreater(len(told), 1)
        self.assertEqual(told[0], told[-1])
        self.assertEqual(len(set(told)), len(told) - 1)
        for one, other in zip(told, told[1:]):
            self.assertIn((one, other, "over"), rows)

    def test_none(self):
        for text in ("", "a>b", "b>a", "a=b", "a=b a=c b=c", "a>b b>c a>c", "a>b b>c a=c", "a>b c>b c>d a>d"):
            self.assertIsNone(elder_ring(kin(text)), text)

    def test_three(self):
        told = elder_ring(kin("a>b b>c c>a"))
        self.is_ring(kin("a>b b>c c>a"), told)
        self.assertIn(told, [turned(list("abca"), at) for at in range(3)])
        told = elder_ring(kin("b>a c>b a>c"))
        self.assertIn(told, [turned(list("acba"), at) for at in range(3)])

    def test_within_others(self):
        rows = kin("a>b b>c c>d d>e e>c e>f f>h a=c a>d b=h")
        told = elder_ring(rows)
        self.is_ring(rows, told)
        self.assertEqual(sorted(told[1:]), list("cde"))

    def test_broken_by_equals(self):
        self.assertIsNone(elder_ring(kin("a>b b>c c>d a=d")))
        self.is_ring(kin("a>b b>c c>d d>a a=c"), elder_ring(kin("a>b b>c c>d d>a a=c")))

    def test_the_same_and_new_each_time(self):
        rows = kin("a>b b>c c>a")
        told = elder_ring(rows)
        before = list(told)
        told.clear()
        self.assertEqual(elder_ring(rows), before)

    def test_of_chance(self):
        chance = random.Random(81)
        told = {True: 0, False: 0}
        for _ in range(300):
            rows = some_kin(chance, "abcdefghij"[:chance.randint(2, 10)], chance.choice((0.2, 0.4, 0.8)))
            self.assertIs(is_kin(rows), True)
            found = elder_ring(rows)
            if found is not None:
                self.is_ring(rows, found)
            self.assertEqual(found is not None, has_elder_ring(rows))
            told[found is not None] += 1
            self.assertIsNone(elder_ring(rank_kin(chance, "abcdefghij", 0.6)))
        self.assertGreater(min(told.values()), 50)


def keeps(place, rows):
    """What the point says of a town that keeps kin, tried out plainly."""
    marks = oracle.let_marks(place)
    if sorted(tuple(sorted(row[:2])) for row in rows) != sorted(place[2]) or has_elder_ring(rows):
        return False
    for way in marks:
        if len(way) > 2 and (way[1], way[2], "over") not in rows and (way[1], way[0], "over") not in rows:
            return False
    for house, ways in oracle.lets(place).items():
        for one, other in itertools.product(ways, ways):
            by_child = [(way[:2] + ("over",)) in rows for way in (one, other)]
            if by_child == [True, False] and ways.index(one) > ways.index(other):
                return False
    return True


class KeepsKin(unittest.TestCase):
    def tells(self, answer, place, rows):
        self.assertIs(keeps_kin(place, rows), answer)
        self.assertIs(keeps(place, rows), answer)

    def test_one_house(self):
        self.tells(True, town("g", "g"), ())
        self.tells(True, town("g", "abg"), ())

    def test_a_chain(self):
        place = town("g", "abg", "ab bg")
        kept = town("g", "abg", "ab bg", {}, {"b": [((("from", "g"), ("to", "a")), KEEP)]})
        for ahead, behind in itertools.product(("a>b", "a=b", "b>a"), ("g>b", "b=g", "b>g")):
            # What b is told by its elder or equal, it may not hand on to its elder or equal.
            self.tells(ahead == "b>a" or behind == "b>g", place, kin(f"{ahead} {behind}"))
            self.tells(True, kept, kin(f"{ahead} {behind}"))

    def test_further_behind(self):
        # Up from a to c, over to d, down to g: each piece of the way is asked.
        place = town("g", "abcdg", "ab bc cd dg")
        self.tells(True, place, kin("b>a c>b c=d d>g"))
        self.tells(True, place, kin("b>a c>b d>c d>g"))
        for text in ("a>b c>b c=d d>g", "a=b c>b c=d d>g", "b>a b=c c=d d>g", "b>a c>b c=d g>d", "b>a c>b c=d d=g",
                     "a=b c>b d>c g>d", "b>a b>c d>c d=g"):
            self.tells(False, place, kin(text))

    def test_a_row_more_or_fewer(self):
        rows = kin("b>a b>g")
        place = town("g", "abg", "ab bg")
        self.tells(True, place, rows)
        for other in (rows[:1], rows[1:], (), kin("a>g b>a b>g"), kin("b>a b>g x>y"), kin("b>a x>g"), kin("a>g b>a")):
            self.tells(False, place, other)
        self.tells(False, town("g", "abg", "ab"), rows)
        self.tells(False, town("g", "g"), rows)
        # A tie whose ways are not let counts, too.
        self.tells(False, town("g", "abcg", "ab bc bg", {"c": [((), None)]}), rows)
        self.tells(True, town("g", "abcg", "ab bc bg", {"c": [((), None)]}, {"c": [((), KEEP)]}), kin("b>a b>c b>g"))

    def test_a_ring_of_elders(self):
        # No way is let by the three.
        place = town("g", "abcg", "ab ac bc", {}, {})
        self.tells(False, place, kin("a>b b>c c>a"))
        self.tells(True, place, kin("a>b b>c a>c"))
        self.tells(True, place, kin("a>b b>c a=c"))

    def test_likings(self):
        # a may go by its child b, or straight to its equal g.
        by_b, by_g = (("from", "b"),), (("from", "g"),)
        rows = kin("a>b b>g a=g")
        for likings, answer in (
            ([], False), ([(by_b, 1)], True), ([(by_g, -1)], True), ([(by_b, -1)], False), ([(by_g, 1)], False),
            ([(by_b, 3), (by_g, 3)], False), ([(by_b, 3), (by_g, 2)], True), ([(by_b, 2), (by_g, 3)], False),
            ([(by_b, None)], True), ([(by_g, None)], True),
        ):
            self.tells(answer, town("g", "abg", "ab ag bg", {"a": likings}), rows)

    def test_each_way_by_a_child(self):
        # Of a's two ways by its child b the longer one counts, too.
        rows = kin("a>b b>c b>g c>g a=g")
        short, by_b = ((("from", "b"), ("not", ("long", 3))), 5), (("from", "b"),)
        for likings, answer in (([short], False), ([short, (by_b, 4)], True), ([(by_b, 1)], True),
                                ([short, (by_b, -1)], False), ([short, (by_b, None)], True)):
            likings = {"a": likings, "b": [((("from", "a"),), -1)]}
            self.tells(answer, town("g", "abcg", "ab ag bc bg cg", likings), rows)

    def test_of_like_worth_the_shorter_one(self):
        # Both ways are worth 0 to a: the one by its child g has fewer houses.
        place = town("g", "abg", "ab ag bg", {}, {"a": [((), KEEP)], "b": [((("to", "g"),), KEEP)]})
        self.assertEqual(oracle.lets(place)["a"], [tuple("ag"), tuple("abg")])
        self.tells(True, place, kin("a>g b>a b>g"))
        self.tells(False, place, kin("a>b b>g g>a"))
        self.tells(False, place, kin("a>b b>g a=g"))

    def test_too_many(self):
        for rows in ((), kin("a>b"), kin("a>b b>c c>a")):
            with self.assertRaises(TooMany):
                keeps_kin(JUST_401, rows)
        self.assertIs(keeps_kin(JUST_400, ()), False)

    def test_of_chance(self):
        chance = random.Random(82)
        told = {True: 0, False: 0}
        for turn in range(400):
            if turn % 4:
                rows = rank_kin(chance, "abcd", 0.7)
                fond = {pair: chance.randint(0, 99) for pair in itertools.permutations("abcd", 2)}
                place = kin_town(chance.choice("abcd"), rows, fond)
                if turn % 4 > 1:
                    place = other_rule(chance, place)
            else:
                place = oracle.some_town(chance, "abcd", 2, 3)
                rows = tuple(sorted(chance.choice(((one, other, "over"), (other, one, "over"), (one, other, "equal")))
                                    for one, other in place[2]))
            answer = keeps(place, rows)
            self.tells(answer, place, rows)
            told[answer] += 1
            if answer:
                self.assertIsNone(ring(place), place)
                self.assertIsNotNone(ranks(place))
        self.assertGreater(min(told.values()), 60)


def other_rule(chance, place):
    """The town with a liking or a hand of one house ahead of the others, by chance."""
    made = oracle.some_town(chance, "".join(place[1]), 1, 1)
    at = chance.randrange(len(place[1]))
    likings, hands = list(place[3]), list(place[4])
    likings[at] = made[3][at] + likings[at]
    hands[at] = made[4][at] + hands[at]
    return place[:3] + (tuple(likings), tuple(hands))


if __name__ == "__main__":
    unittest.main()
