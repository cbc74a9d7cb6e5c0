import itertools
import random
import unittest

import oracle
from restways.houses import House
from restways.papers import is_right, named
from samples import LONG_NAMES, NEVER_RIGHT, Alike, Sore, nested, part_at, places, put_at, town
from test_houses import letter

KEEP = ("keep",)
# c hands on to a with the mark m, b strikes it from what goes to a and puts n; b keeps from g what comes by c.
PLACE = town(
    "g", "abcg", "ab ac bc bg cg", {"a": [((("from", "b"), ("mark", "x")), None)], "b": [((("mark", "m"),), 5)]},
    {"b": [((("to", "a"),), ("strike", "m")), ((("to", "a"),), ("put", "n")), ((("from", "c"), ("to", "g")), KEEP)],
     "c": [((), ("put", "m"))]},
)
FROM_G = letter("g", "c", 1, "g")
FROM_C = letter("c", "b", 2, "cg", "m")
FROM_B = letter("b", "a", 3, "bcg", "n")
FROM_A = letter("a", "c", 4, "abcg", "n")
SEALED = (FROM_A, (FROM_B, FROM_C, FROM_G))


def with_parts(paper, **parts):
    """A paper with other parts: with_parts(FROM_B, nr=4, way="bg")."""
    told = dict(zip(("one", "to", "nr", "way", "marks"), paper))
    told.update(parts)
    way = told["way"]
    return (told["one"], told["to"], told["nr"], tuple(way) if isinstance(way, str) else way, told["marks"])


class IsRight(unittest.TestCase):
    def tells(self, answer, thing, place=PLACE):
        self.assertIs(is_right(place, thing), answer, repr(thing))

    def test_of_each_house_on_the_way(self):
        self.tells(True, SEALED)
        self.tells(True, (FROM_B, (FROM_C, FROM_G)))
        self.tells(True, (FROM_C, (FROM_G,)))
        self.tells(True, (FROM_G, ()))

    def test_to_each_tied_house(self):
        self.tells(True, (letter("g", "b", 9, "g"), ()))
        self.tells(True, (letter("c", "a", 1, "cg", "m"), (FROM_G,)))
        # Also to a house of the way.
        self.tells(True, (letter("c", "g", 1, "cg", "m"), (FROM_G,)))
        self.tells(True, (letter("a", "b", 1, "abcg", "n"), SEALED[1]))
        self.tells(True, (letter("b", "c", 1, "bcg", "m"), (FROM_C, FROM_G)))
        self.tells(False, (letter("b", "g", 1, "bcg", "m"), (FROM_C, FROM_G)))

    def test_what_houses_tell(self):
        papers = {}
        road = [(one, ()) for one in House(PLACE, "g").begin()]
        houses = {name: House(PLACE, name) for name in "abc"}
        for first, behind in road:
            self.tells(True, (first, behind))
            one, to = first[:2]
            if to == "g":
                continue
            papers[(to, one)] = (first,) + behind
            for told in houses[to].hear(first):
                way = told[3]
                road.append((told, () if way is None else papers[(to, way[1])]))
        self.assertGreater(len(road), 10)
        self.assertIn(None, [first[3] for first, behind in road])

    def test_no_way(self):
        for one, to in itertools.permutations("abcg", 2):
            self.tells((one, to) not in (("a", "g"), ("g", "a")), (letter(one, to, 7, None), ()))
        self.tells(False, (letter("a", "b", 1, None), (FROM_B,)))
        self.tells(False, (letter("a", "b", 1, None), SEALED[1]))
        self.tells(False, (letter("g", "b", 1, None), (FROM_G,)))
        self.tells(False, (letter("a", "b", 1, None, "m"), ()))
        self.tells(False, (FROM_A, (with_parts(FROM_B, way=None), FROM_C, FROM_G)))
        self.tells(False, (FROM_A, (with_parts(FROM_B, way=None, marks=()), FROM_C, FROM_G)))

    def test_the_number_of_papers(self):
        first, papers = SEALED
        for many in range(3):
            self.tells(False, (first, papers[:many]))
            self.tells(False, (first, papers[many + 1:]))
            self.tells(False, (first, papers[:many] + papers[many + 1:]))
            self.tells(False, (first, papers[:many] + papers[many:many + 1] + papers[many:]))
        self.tells(False, (first, papers + (FROM_G,)))
        self.tells(False, (FROM_G, (FROM_G,)))
        self.tells(False, (FROM_G, (letter("c", "g", 1, "cg", "m"),)))
        self.tells(False, (first, papers + (FROM_G,) * 7))
        self.tells(False, (first, papers + (FROM_G,) * 8))

    def test_their_order(self):
        for papers in itertools.permutations(SEALED[1]):
            self.tells(papers == SEALED[1], (FROM_A, papers))

    def test_their_houses(self):
        for at, paper in enumerate(SEALED[1]):
            for one, to in itertools.product("abcg", "abcg"):
                papers = SEALED[1][:at] + (with_parts(paper, one=one, to=to),) + SEALED[1][at + 1:]
                self.tells((one, to) == paper[:2], (FROM_A, papers))
        for one in "bcg":
            self.tells(False, (with_parts(FROM_A, one=one), SEALED[1]))
        self.tells(False, (with_parts(FROM_A, to="a"), SEALED[1]))
        self.tells(False, (with_parts(FROM_A, to="g"), SEALED[1]))
        self.tells(False, (with_parts(FROM_A, to="x"), SEALED[1]))
        self.tells(False, (with_parts(FROM_A, one="x"), SEALED[1]))

    def test_their_ways(self):
        ways = [way for many in (1, 2, 3, 4) for way in itertools.permutations("abcg", many)]
        for at, paper in enumerate((FROM_A,) + SEALED[1]):
            for way in ways + [tuple("abab"), tuple("aacg"), tuple("bcgg"), tuple("xg")]:
                row = list((FROM_A,) + SEALED[1])
                row[at] = with_parts(paper, way=way)
                self.tells(way == paper[3], (row[0], tuple(row[1:])))

    def test_a_way_that_is_none_by_the_ties(self):
        # a and g aren't tied.
        self.tells(False, (letter("a", "b", 1, "ag"), (letter("g", "a", 1, "g"),)))
        self.tells(False, (letter("b", "a", 1, "bc", "n"), (letter("c", "b", 1, "c", "m"),)))
        self.tells(False, (letter("c", "b", 1, "c", "m"), ()))
        other = PLACE[:2] + (tuple(pair for pair in PLACE[2] if pair != ("b", "c")),) + PLACE[3:]
        self.tells(False, SEALED, other)

    def test_their_marks(self):
        for at, paper in enumerate((FROM_A,) + SEALED[1]):
            for marks in ((), ("m",), ("n",), ("m", "n"), ("n", "m"), ("n", "n"), ("m", "m"), ("x",), ("m", "n", "x")):
                row = list((FROM_A,) + SEALED[1])
                row[at] = with_parts(paper, marks=marks)
                self.tells(marks == paper[4], (row[0], tuple(row[1:])))

    def test_marks_rise(self):
        place = town("g", "abg", "ab bg", {}, {"g": [((), ("put", "z"))], "b": [((), ("put", "b")), ((), ("put", "m"))]})
        papers = (letter("b", "a", 1, "bg", "bmz"), letter("g", "b", 1, "g", "z"))
        for marks in itertools.permutations("bmz"):
            self.tells(marks == tuple("bmz"), (with_parts(papers[0], marks=marks), papers[1:]), place)
            self.tells(marks == tuple("bmz"), (letter("a", "b", 1, "abg", "bmz"), (with_parts(papers[0], marks=marks),)
                                               + papers[1:]), place)
            self.tells(marks == tuple("bmz"), (letter("a", "b", 1, "abg", marks), papers), place)

    def test_nrs(self):
        for at, paper in enumerate((FROM_A,) + SEALED[1]):
            for nr in (1, 2, 999, 10 ** 40, 0, -1, -10 ** 40, True, False, None, "1", b"1", (1,), [1]):
                row = list((FROM_A,) + SEALED[1])
                row[at] = with_parts(paper, nr=nr)
                self.tells(type(nr) is int and nr > 0, (row[0], tuple(row[1:])))
        for nr in (0, True, False, -1, None):
            self.tells(False, (letter("a", "b", nr, None), ()))
            self.tells(False, (with_parts(FROM_G, nr=nr), ()))

    def test_a_way_that_is_kept(self):
        kept = town("g", "abg", "ab bg", {}, {"b": [((("to", "a"), ("mark", "x")), KEEP)], "g": [((), ("put", "x"))]})
        papers = (letter("g", "b", 1, "g", "x"),)
        self.tells(False, (letter("b", "a", 1, "bg", "x"), papers), kept)
        self.tells(False, (letter("b", "a", 1, "bg"), papers), kept)
        self.tells(True, (letter("b", "g", 1, "bg", "x"), papers), kept)
        self.tells(True, (letter("b", "a", 1, None), ()), kept)
        self.tells(False, (letter("a", "b", 1, "abg", "x"), (letter("b", "a", 1, "bg", "x"),) + papers), kept)
        shut = town("g", "abg", "ab bg", {}, {"g": [((), KEEP)]})
        self.tells(False, (letter("g", "b", 1, "g"), ()), shut)

    def test_a_way_of_worth_none(self):
        place = town("g", "abg", "ab ag bg", {"b": [((("mark", "x"),), None)]}, {"g": [((("to", "b"),), ("put", "x"))]})
        papers = (letter("g", "b", 1, "g", "x"),)
        self.tells(False, (letter("b", "a", 1, "bg", "x"), papers), place)
        self.tells(False, (letter("a", "b", 1, "abg", "x"), (letter("b", "a", 1, "bg", "x"),) + papers), place)
        # With what was handed to it, not with what it hands on itself.
        strikes = town("g", "abg", "ab ag bg", {"b": [((("mark", "x"),), None)]},
                       {"g": [((("to", "b"),), ("put", "x"))], "b": [((), ("strike", "x"))]})
        self.tells(False, (letter("b", "a", 1, "bg"), papers), strikes)
        puts = town("g", "abg", "ab ag bg", {"b": [((("mark", "x"),), None)]}, {"b": [((), ("put", "x"))]})
        self.tells(True, (letter("b", "a", 1, "bg", "x"), (letter("g", "b", 1, "g"),)), puts)
        # The first house's own way, too.
        never = town("g", "abg", "ab ag bg", {"a": [((), None)]})
        self.tells(False, (letter("a", "b", 1, "ag"), (letter("g", "a", 1, "g"),)), never)
        self.tells(False, (letter("a", "g", 1, "abg"), (letter("b", "a", 1, "bg"), letter("g", "b", 1, "g"))), never)
        self.tells(True, (letter("b", "a", 1, "bg"), (letter("g", "b", 1, "g"),)), never)

    def test_whatever_the_goal_likes(self):
        place = town("g", "abg", "ab ag bg", {"g": [((), None)]})
        self.tells(True, (letter("g", "a", 1, "g"), ()), place)
        self.tells(True, (letter("a", "b", 1, "ag"), (letter("g", "a", 1, "g"),)), place)

    def test_the_goals_other_ways(self):
        # A way of the goal has one house.
        place = town("g", "abg", "ab ag bg")
        self.tells(False, (letter("g", "b", 1, "gag"), (letter("a", "g", 1, "ag"), letter("g", "a", 1, "g"))), place)

    def test_ninety_marks(self):
        names = ["a" + "".join(pair) for pair in itertools.product("abcdefghij", "abcdefghi")]
        self.assertEqual(len(names), 90)
        place = town("g", "abg", "ab bg", {}, {"g": [((), ("put", name)) for name in names], "b": [((), ("put", "z"))]})
        told = tuple(sorted(names))
        from_g = ("g", "b", 1, ("g",), told)
        self.tells(True, (from_g, ()), place)
        self.tells(False, (("b", "a", 1, ("b", "g"), told + ("z",)), (from_g,)), place)
        fewer = town("g", "abg", "ab bg", {}, {"g": [((), ("put", name)) for name in names[1:]],
                                               "b": [((), ("put", "z"))]})
        from_g = ("g", "b", 1, ("g",), told[1:])
        self.tells(True, (("b", "a", 1, ("b", "g"), told[1:] + ("z",)), (from_g,)), fewer)

    def test_ten_houses(self):
        houses = "abcdefghij"
        place = town("j", houses, " ".join(one + other for one, other in zip(houses, houses[1:])))
        way = tuple(houses)
        papers = tuple((way[k + 1], way[k], k + 1, way[k + 1:], ()) for k in range(9))
        self.tells(True, (("a", "b", 1, way, ()), papers), place)
        self.tells(False, (("a", "b", 1, way + ("k",), ()), papers + (("j", "i", 1, ("j",), ()),)), place)
        self.tells(False, (("a", "b", 1, way, ()), papers + (("j", "i", 1, ("j",), ()),) * 2), place)

    def test_names_of_several_letters(self):
        papers = (("hut", "mill", 2, ("hut", "home"), ("dusty",)), ("home", "hut", 1, ("home",), ()))
        sealed = (("mill", "hut", 1, ("mill", "hut", "home"), ("dusty",)), papers)
        self.tells(True, sealed, LONG_NAMES)
        self.tells(False, (("mill", "hut", 1, ("mill", "hut", "home"), ()), papers), LONG_NAMES)

    def test_other_kinds(self):
        first, papers = SEALED
        for thing in (list(SEALED), (first, list(papers)), (list(first), papers), (first,), (first, papers, ()), first,
                      (first,) + papers, (papers, first), {0: first, 1: papers}, (first, None), (None, papers), None,
                      (first, {paper: True for paper in papers}), ((), ()), ("", ()), (first, "")):
            self.tells(False, thing)

    def test_papers_of_other_lengths(self):
        row = (FROM_A,) + SEALED[1]
        for at, paper in enumerate(row):
            for other in (paper[:4], paper[1:], paper[:3], paper[:2], paper[:1], (), paper + ((),), paper + paper[:1]):
                told = row[:at] + (other,) + row[at + 1:]
                self.tells(False, (told[0], told[1:]))
        self.tells(False, (letter("a", "b", 1, None)[:4], ()))

    def test_spoilt_ones(self):
        for place in places(SEALED):
            part = part_at(SEALED, place)
            for odd in NEVER_RIGHT + (Sore(), Alike(), nested(tuple, 55)):
                is_nr = type(part) is int and type(odd) is int and odd > 0
                self.tells(is_nr, put_at(SEALED, place, odd))
            if isinstance(part, tuple):
                self.tells(False, put_at(SEALED, place, list(part)))

    def test_odd_things(self):
        for odd in NEVER_RIGHT + (nested(list, 60),):
            self.tells(False, odd)
            self.tells(False, (odd, ()))
            self.tells(False, (letter("a", "b", 1, None), odd))
            self.tells(False, (letter("a", "b", 1, None), (odd,)))

    def test_of_chance(self):
        chance = random.Random(91)
        told = {True: 0, False: 0}
        for _ in range(60):
            place = oracle.some_town(chance, "abcd", 2, 3)
            marks = oracle.let_marks(place)
            right = list(oracle.right_letters(place))
            for sealed in right:
                self.tells(True, sealed, place)
            papers = [paper for first, behind in right for paper in (first,) + behind]
            for _ in range(40 if right else 0):
                first, behind = chance.choice(right)
                row = [first] + list(behind)
                row[chance.randrange(len(row))] = chance.choice(papers)
                if chance.random() < 0.4:
                    at = chance.randrange(len(row))
                    row[at] = with_parts(row[at], marks=chance.choice(((), ("m",), ("n",), ("m", "n"))))
                sealed = (row[0], tuple(row[1:]))
                answer = oracle.is_right(place, sealed, marks)
                self.tells(answer, sealed, place)
                told[answer] += 1
        self.assertGreater(min(told.values()), 100)


class Named(unittest.TestCase):
    def tells(self, found, letters, place=PLACE):
        before = list(letters)
        self.assertEqual(named(place, letters), found)
        self.assertEqual(letters, before)
        self.assertEqual(oracle.named(place, letters), found)

    def test_nobody(self):
        self.tells([], [])
        self.tells([], [SEALED])
        self.tells([], [SEALED, (FROM_B, (FROM_C, FROM_G)), (FROM_G, ()), (letter("a", "b", 1, None), ())])

    def test_false(self):
        wrong = (with_parts(FROM_A, marks=("m",)), SEALED[1])
        self.tells([("a", "false")], [wrong])
        self.tells([("a", "false")], [SEALED[:1] + ((),)])
        self.tells([("a", "false")], [wrong, wrong])
        # Who made a paper behind is not named so.
        self.tells([("a", "false")], [(FROM_A, (with_parts(FROM_B, marks=()),) + SEALED[1][1:])])
        self.tells([("b", "false")], [(FROM_B, (FROM_C,))])
        self.tells([("g", "false")], [(with_parts(FROM_G, marks=("m",)), ())])
        self.tells([("a", "false"), ("b", "false")], [(FROM_B, ()), SEALED, (FROM_A, ())])

    def test_twin(self):
        other = letter("g", "c", 1, None)
        self.tells([("g", "twin")], [(FROM_G, ()), (other, ())])
        self.tells([("g", "twin")], [(other, ()), (FROM_G, ())])
        # Wherever they stand: behind another paper, or both of them.
        self.tells([("g", "twin")], [(other, ()), (FROM_C, (FROM_G,))])
        self.tells([("g", "twin")], [SEALED, (other, ())])
        again = letter("b", "a", 3, "bg", "n")
        self.tells([("b", "twin")], [SEALED, (letter("a", "b", 9, "abg", "n"), (again, letter("g", "b", 5, "g")))])

    def test_a_twin_within_one_letter(self):
        wrong = (FROM_A, (FROM_B, FROM_C, letter("c", "b", 2, None)))
        self.tells([("a", "false"), ("c", "twin")], [wrong])

    def test_of_one_who_is_both(self):
        self.tells([("c", "false"), ("c", "twin")], [(FROM_C, ()), (letter("c", "b", 2, None), ())])

    def test_no_twin(self):
        self.tells([], [(FROM_G, ()), (FROM_G, ())])
        self.tells([], [SEALED, SEALED, (FROM_C, (FROM_G,)), (FROM_G, ())])
        # Another nr, another house to which it is told, another one that tells.
        self.tells([], [(letter("g", "c", 1, "g"), ()), (letter("g", "c", 2, None), ())])
        self.tells([], [(letter("g", "c", 1, "g"), ()), (letter("g", "b", 1, None), ())])
        self.tells([], [(letter("g", "b", 1, "g"), ()), (letter("c", "b", 1, None), ())])

    def test_by_marks_alone(self):
        self.tells([("g", "false"), ("g", "twin")], [(FROM_G, ()), (with_parts(FROM_G, marks=("m",)), ())])

    def test_each_once_and_rising(self):
        letters = [(letter(one, "b", 1, way), ()) for one in "cag" for way in (None, "bg", "cb")]
        found = [(one, word) for one in "acg" for word in ("false", "twin")]
        self.tells(found, letters)
        self.tells(found, letters[::-1] * 2)

    def test_new_each_time(self):
        letters = [(FROM_C, ())]
        named(PLACE, letters).clear()
        self.tells([("c", "false")], letters)

    def test_of_chance(self):
        chance = random.Random(92)
        for _ in range(60):
            place = oracle.some_town(chance, "abcd", 2, 3)
            right = list(oracle.right_letters(place)) + list(oracle.right_letters(place, 2))
            papers = [paper for first, behind in right for paper in (first,) + behind]
            letters = []
            for _ in range(chance.randint(0, 12) if papers else 0):
                first, behind = chance.choice(right)
                if chance.random() < 0.3:
                    first = chance.choice(papers)
                if chance.random() < 0.3:
                    behind += (chance.choice(papers),)
                letters.append((first, behind))
            self.tells(oracle.named(place, letters), letters, place)


if __name__ == "__main__":
    unittest.main()
