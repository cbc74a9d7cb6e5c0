import random
import unittest

import oracle
import test_deeds
from restways.counts import mosts
from restways.errors import Forged, Needed, NoDeed, NoLetter, RestError
from restways.rests import is_rest, rests
from restways.rings import ranks, rest
from restways.runs import Run
from samples import JUST_401, LONG_NAMES, NEVER_RIGHT, NO_REST, TWO_RESTS, all_ties, town, via
from test_houses import letter

KEEP = ("keep",)
TRIANGLE = town("g", "abg", "ab ag bg")
CHAIN = town("g", "abg", "ab bg")
# b likes to go by c, so that a hears two letters of b.
DETOUR = town("g", "abcg", "ab bc bg cg", {"b": [((("from", "c"),), 5)]})


def choice(**ways):
    return {house: None if way is None else tuple(way) for house, way in ways.items()}


def place_of(run, one, to, nr=None):
    """The place on the road of the letter from one to the other."""
    found = [k for k, row in enumerate(run.road()) if row[:2] == (one, to) and nr in (None, row[2])]
    return found[0]


def seen(run):
    """All that a run tells."""
    return (run.road(), run.choice(), run.changes(), run.is_still(), run.town())


def run_in_order(run):
    """Lets letters come, the first one first, until none is left."""
    while run.road():
        run.come(0)


def run_on(run, chance):
    """Lets letters come, in any order, until all is still; now and then one twice, one lost."""
    while not run.is_still():
        k = chance.randrange(len(run.road()))
        deed = chance.random()
        if deed < 0.15:
            run.copy(k)
        elif deed < 0.3:
            try:
                run.lose(k)
            except Needed:
                pass
        else:
            run.come(k)


class Base(unittest.TestCase):
    def refused(self, kind, deed, *things):
        with self.assertRaises(kind) as caught:
            deed(*things)
        self.assertIsInstance(caught.exception, RestError)
        for other in (NoLetter, Needed, NoDeed, Forged):
            self.assertEqual(isinstance(caught.exception, other), other is kind)


class Begun(Base):
    def test_one_house(self):
        run = Run(town("g", "g"))
        self.assertEqual(seen(run), ([], {"g": ("g",)}, {"g": 1}, True, town("g", "g")))

    def test_the_road(self):
        run = Run(TRIANGLE)
        self.assertEqual(run.road(), [letter("g", "a", 1, "g"), letter("g", "b", 1, "g")])
        self.assertEqual(run.choice(), choice(a=None, b=None, g="g"))
        self.assertEqual(run.changes(), {"a": 0, "b": 0, "g": 1})
        self.assertIs(run.is_still(), False)
        self.assertEqual(run.town(), TRIANGLE)

    def test_a_goal_that_keeps_its_way(self):
        run = Run(town("g", "abg", "ag bg", {}, {"g": [((("to", "a"),), KEEP), ((), ("put", "m"))]}))
        self.assertEqual(run.road(), [letter("g", "b", 1, "g", "m")])

    def test_of_more_than_400_let_ways(self):
        run = Run(JUST_401)
        run_on(run, random.Random(1))
        self.assertEqual(run.choice()["a"], ("a", "g"))

    def test_lists_and_dicts_are_new(self):
        run = Run(TRIANGLE)
        before = seen(run)
        run.road().clear()
        run.choice().clear()
        run.changes().clear()
        self.assertEqual(seen(run), before)
        self.assertEqual(seen(run), (before[0], before[1], before[2], False, TRIANGLE))

    def test_two_have_nothing_in_common(self):
        one, other = Run(TRIANGLE), Run(TRIANGLE)
        before = seen(other)
        run_on(one, random.Random(2))
        one.change(("untie", "a", "b"))
        self.assertEqual(seen(other), before)


    def test_names_of_several_letters(self):
        run = Run(LONG_NAMES)
        self.assertEqual(run.road(), [("home", "hill", 1, ("home",), ()), ("home", "hut", 1, ("home",), ())])
        run.come(1)
        self.assertEqual(run.road()[-1], ("hut", "mill", 1, ("hut", "home"), ("dusty",)))
        run_in_order(run)
        self.assertEqual(run.choice(), {"hill": ("hill", "hut", "home"), "home": ("home",), "hut": ("hut", "home"),
                                        "mill": ("mill", "hut", "home")})
        run.change(("untie", "mill", "hut"))
        run.change(("tie", "mill", "hill"))
        run_in_order(run)
        self.assertEqual(run.choice()["mill"], ("mill", "hill", "hut", "home"))
        self.assertEqual(run.choice(), rest(run.town()))


class Comings(Base):
    def test_come(self):
        run = Run(TRIANGLE)
        self.assertIsNone(run.come(1))
        self.assertEqual(run.road(), [letter("g", "a", 1, "g"), letter("b", "a", 1, "bg"), letter("b", "g", 1, "bg")])
        self.assertEqual(run.choice(), choice(a=None, b="bg", g="g"))
        self.assertEqual(run.changes(), {"a": 0, "b": 1, "g": 1})
        run.come(0)
        self.assertEqual(run.road(), [letter("b", "a", 1, "bg"), letter("b", "g", 1, "bg"),
                                      letter("a", "b", 1, "ag"), letter("a", "g", 1, "ag")])
        run.come(0)
        self.assertEqual(len(run.road()), 3)
        self.assertIs(run.is_still(), False)
        for _ in range(3):
            run.come(0)
        self.assertEqual(seen(run), ([], choice(a="ag", b="bg", g="g"), {"a": 1, "b": 1, "g": 1}, True, TRIANGLE))

    def test_copy(self):
        run = Run(TRIANGLE)
        self.assertIsNone(run.copy(0))
        self.assertEqual(run.road(), [letter("g", "a", 1, "g"), letter("g", "b", 1, "g"),
                                      letter("a", "b", 1, "ag"), letter("a", "g", 1, "ag")])
        self.assertEqual(run.choice(), choice(a="ag", b=None, g="g"))
        before = seen(run)
        run.copy(0)
        self.assertEqual(seen(run), before)
        run.come(0)
        self.assertEqual(run.road(), before[0][1:])
        self.assertEqual(run.changes(), before[2])

    def test_lose_what_was_heard(self):
        run = Run(TRIANGLE)
        run.copy(1)
        road = run.road()
        self.assertIsNone(run.lose(1))
        self.assertEqual(run.road(), road[:1] + road[2:])
        self.assertEqual(run.choice(), choice(a=None, b="bg", g="g"))

    def test_lose_what_is_needed(self):
        run = Run(TRIANGLE)
        before = seen(run)
        for k in (0, 1):
            self.refused(Needed, run.lose, k)
            self.assertEqual(seen(run), before)
        run.come(0)
        # Letters from a to b and g are there, and none of them takes the place of g's to b.
        self.refused(Needed, run.lose, 0)
        self.refused(Needed, run.lose, 1)
        self.refused(Needed, run.lose, 2)

    def two_of_b(self):
        """A run of DETOUR with b's first and second letters to a, and to c, on the road."""
        run = Run(DETOUR)
        run.come(place_of(run, "g", "b"))
        run.come(place_of(run, "g", "c"))
        run.come(place_of(run, "c", "b"))
        self.assertEqual([row for row in run.road() if row[:2] == ("b", "a")],
                         [letter("b", "a", 1, "bg"), letter("b", "a", 2, "bcg")])
        return run

    def test_lose_where_a_greater_one_is_on_the_road(self):
        run = self.two_of_b()
        self.refused(Needed, run.lose, place_of(run, "b", "a", 2))
        run.lose(place_of(run, "b", "a", 1))
        self.assertEqual([row for row in run.road() if row[:2] == ("b", "a")], [letter("b", "a", 2, "bcg")])
        self.refused(Needed, run.lose, place_of(run, "b", "a", 2))

    def test_lose_where_a_greater_one_was_heard(self):
        run = self.two_of_b()
        run.come(place_of(run, "b", "a", 2))
        self.assertEqual(run.choice()["a"], tuple("abcg"))
        run.lose(place_of(run, "b", "a", 1))
        self.assertEqual([row for row in run.road() if row[:2] == ("b", "a")], [])

    def test_an_older_one_comes_late(self):
        run = self.two_of_b()
        run.come(place_of(run, "b", "a", 2))
        before = seen(run)
        k = place_of(run, "b", "a", 1)
        run.copy(k)
        self.assertEqual(seen(run), before)
        run.come(k)
        self.assertEqual(run.road(), before[0][:k] + before[0][k + 1:])
        self.assertEqual((run.choice(), run.changes()), before[1:3])

    def test_an_older_one_heard_first_does_not_let_the_newer_be_lost(self):
        run = self.two_of_b()
        run.come(place_of(run, "b", "a", 1))
        self.refused(Needed, run.lose, place_of(run, "b", "a", 2))

    def test_still_with_letters_that_are_passed_over(self):
        run = Run(town("g", "ag", "ag"))
        run.copy(0)
        self.assertIs(run.is_still(), False)
        run.copy(1)
        self.assertEqual(run.road(), [letter("g", "a", 1, "g"), letter("a", "g", 1, "ag")])
        self.assertIs(run.is_still(), True)
        run.lose(0)
        run.lose(0)
        self.assertEqual(run.road(), [])
        self.assertIs(run.is_still(), True)

    def test_marks_alone_are_no_change(self):
        hands = {"b": [((("from", "c"),), ("put", "m"))]}
        place = town("g", "abcg", "ab bc bg cg", {"b": [((("from", "c"),), 5)]}, hands)
        run = Run(place)
        run_on(run, random.Random(3))
        self.assertEqual(run.choice()["a"], tuple("abcg"))
        run.change(("hand", "b", ()))
        self.assertEqual([row[:2] + row[3:] for row in run.road() if row[0] == "b"][-3:],
                         [("b", other, tuple("bcg"), ()) for other in "acg"])
        before = run.changes()
        run_on(run, random.Random(3))
        self.assertEqual(run.changes(), before)
        self.assertEqual(run.choice()["a"], tuple("abcg"))

    def test_none_is_another_one(self):
        # a hears b's straight way, then none: b keeps what comes from c.
        hands = {"b": [((("from", "c"), ("to", "a")), KEEP)]}
        run = Run(town("g", "abcg", "ab bc bg cg", {"b": [((("from", "c"),), 5)]}, hands))
        run.come(place_of(run, "g", "b"))
        run.come(place_of(run, "b", "a"))
        self.assertEqual((run.choice()["a"], run.changes()["a"]), (tuple("abg"), 1))
        run.come(place_of(run, "g", "c"))
        run.come(place_of(run, "c", "b"))
        self.assertEqual(run.road()[-3], letter("b", "a", 2, None))
        run.come(place_of(run, "b", "a"))
        self.assertEqual((run.choice()["a"], run.changes()["a"]), (None, 2))


class NoSuchPlace(Base):
    def test_of_anything(self):
        run = Run(TRIANGLE)
        run.come(0)
        before = seen(run)
        many = len(run.road())
        odd = (True, False, None, "0", "", b"\x00", (0,), [0], -1, -2, -many, many, many + 1, 10 ** 40, -(10 ** 40),
               {0}, {0: 0}, range(1), (), 4000)
        for k in odd + NEVER_RIGHT:
            for deed in (run.come, run.copy, run.lose):
                self.refused(NoLetter, deed, k)
        self.assertEqual(seen(run), before)

    def test_of_an_empty_road(self):
        run = Run(town("g", "g"))
        for k in (0, -1, 1, None, False):
            for deed in (run.come, run.copy, run.lose):
                self.refused(NoLetter, deed, k)

    def test_ahead_of_needed(self):
        run = Run(TRIANGLE)
        self.refused(NoLetter, run.lose, 2)
        self.refused(Needed, run.lose, 1)


class Still(Base):
    def test_at_a_rest(self):
        chance = random.Random(21)
        for _ in range(60):
            place = oracle.some_town(chance, "abcde", 3, 2)
            if ranks(place) is None:
                continue
            run = Run(place)
            run_on(run, chance)
            self.assertEqual(run.choice(), rest(place), place)
            self.assertIs(is_rest(place, run.choice()), True)
            most = mosts(place)
            for house, many in run.changes().items():
                self.assertLessEqual(many, most[house], place)

    def test_changes_can_be_as_many_as_told(self):
        # b goes straight first, then by c; a hears of both.
        place = town("g", "abcg", "ab bc bg cg", {"b": [((("from", "c"),), 5)], "c": [((("by", "b"),), None)]})
        run = Run(place)
        run.come(place_of(run, "g", "b"))
        run.come(place_of(run, "b", "a"))
        run.come(place_of(run, "g", "c"))
        run.come(place_of(run, "c", "b"))
        run_in_order(run)
        self.assertEqual(run.changes(), {"a": 2, "b": 2, "c": 1, "g": 1})
        self.assertEqual(mosts(place), {"a": 3, "b": 2, "c": 1, "g": 1})
        self.assertEqual(run.choice(), rest(place))

    def test_one_of_several_rests(self):
        chance = random.Random(23)
        found = []
        for _ in range(20):
            run = Run(TWO_RESTS)
            run_on(run, chance)
            self.assertIn(run.choice(), rests(TWO_RESTS))
            found.append(run.choice())
        self.assertTrue(all(one in found for one in rests(TWO_RESTS)))

    def test_never_where_there_is_no_rest(self):
        chance = random.Random(24)
        run = Run(NO_REST)
        for _ in range(1000):
            self.assertIs(run.is_still(), False)
            run.come(chance.randrange(len(run.road())) if len(run.road()) < 50 else 0)

    def test_each_on_a_way_goes_by_its_own_piece(self):
        chance = random.Random(25)
        for _ in range(40):
            place = oracle.some_town(chance, "abcde", 3, 2)
            run = Run(place)
            for _ in range(400):
                if run.is_still():
                    break
                run.come(chance.randrange(len(run.road())))
            if run.is_still():
                self.assertIn(run.choice(), rests(place))
                for way in run.choice().values():
                    for at in range(len(way or ())):
                        self.assertEqual(run.choice()[way[at]], way[at:])


class Change(Base):
    def still(self, place):
        run = Run(place)
        run_in_order(run)
        return run

    def test_tie(self):
        for deed in (("tie", "a", "g"), ("tie", "g", "a")):
            run = self.still(CHAIN)
            self.assertEqual(run.choice(), choice(a="abg", b="bg", g="g"))
            self.assertIsNone(run.change(deed))
            self.assertEqual(run.town(), TRIANGLE)
            # a offers g its way, and g offers a its own: first letters between the two.
            self.assertEqual(run.road(), [letter("a", "g", 1, "abg"), letter("g", "a", 1, "g")])
            self.assertEqual(run.choice(), choice(a="abg", b="bg", g="g"))
            run_on(run, random.Random(32))
            self.assertEqual(run.choice(), rest(TRIANGLE))

    def test_untie(self):
        for deed in (("untie", "a", "g"), ("untie", "g", "a")):
            run = self.still(TRIANGLE)
            run.change(deed)
            self.assertEqual(run.town(), CHAIN)
            self.assertEqual(run.choice(), choice(a="abg", b="bg", g="g"))
            self.assertEqual(run.changes(), {"a": 2, "b": 1, "g": 1})
            self.assertEqual(run.road(), [letter("a", "b", 2, "abg")])
            run_on(run, random.Random(33))
            self.assertEqual(run.choice(), rest(CHAIN))

    def test_untie_takes_letters_of_the_two_off_the_road(self):
        run = Run(TRIANGLE)
        run.come(0)
        self.assertEqual(run.road(), [letter("g", "b", 1, "g"), letter("a", "b", 1, "ag"), letter("a", "g", 1, "ag")])
        run.change(("untie", "g", "b"))
        self.assertEqual(run.road(), [letter("a", "b", 1, "ag"), letter("a", "g", 1, "ag")])
        run.change(("untie", "b", "a"))
        self.assertEqual(run.road(), [letter("a", "g", 1, "ag")])
        run.change(("untie", "a", "g"))
        self.assertEqual(run.road(), [])
        self.assertEqual(run.choice(), choice(a=None, b=None, g="g"))
        self.assertEqual(run.changes(), {"a": 2, "b": 0, "g": 1})

    def test_untie_takes_letters_both_ways_about(self):
        run = Run(CHAIN)
        run.copy(0)
        self.assertEqual(run.road(), [letter("g", "b", 1, "g"), letter("b", "a", 1, "bg"), letter("b", "g", 1, "bg")])
        run.change(("untie", "b", "g"))
        self.assertEqual(run.road(), [letter("b", "a", 1, "bg"), letter("b", "a", 2, None)])

    def test_the_rising_one_tells_first(self):
        run = self.still(town("g", "abcg", "ab ac bc bg cg"))
        self.assertEqual(run.choice(), choice(a="abg", b="bg", c="cg", g="g"))
        run.change(("untie", "c", "b"))
        self.assertEqual(run.road(), [])
        run.change(("untie", "g", "b"))
        self.assertEqual(run.road(), [letter("b", "a", 2, None)])
        run = self.still(town("g", "abcg", "ab ac bc bg cg"))
        run.change(("hand", "b", (((), ("put", "m")),)))
        self.assertEqual(run.road(), [letter("b", other, 2, "bg", "m") for other in "acg"])
        run = self.still(town("g", "abcdg", "ac ag bd bg cg dg", {"a": [((("from", "c"),), 5)], "b": [((("from", "d"),), 5)]}))
        run.change(("tie", "b", "a"))
        self.assertEqual(run.road(), [letter("a", "b", 1, "acg"), letter("b", "a", 1, "bdg")])

    def test_nrs_go_on(self):
        run = self.still(TRIANGLE)
        run.change(("untie", "a", "g"))
        run_in_order(run)
        run.change(("tie", "a", "g"))
        self.assertEqual(run.road(), [letter("a", "g", 2, "abg"), letter("g", "a", 2, "g")])
        run.come(1)
        self.assertEqual(run.choice()["a"], ("a", "g"))
        self.assertEqual(run.road()[1:], [letter("a", "b", 3, "ag"), letter("a", "g", 3, "ag")])

    def test_nrs_heard_go_on(self):
        run = self.still(TRIANGLE)
        self.assertEqual(run.people["a"].heard("g"), (1, ("g",), ()))
        run.change(("untie", "a", "g"))
        # No letter of the two is left by which a run itself could show it, so the houses are asked.
        for _ in range(2):
            self.assertEqual(run.people["a"].heard("g"), (1, None, ()))
            self.assertEqual(run.people["g"].heard("a"), (1, None, ()))
            if ("a", "g") not in run.town()[2]:
                run.change(("tie", "a", "g"))
        k = place_of(run, "g", "a")
        self.assertEqual(run.road()[k], letter("g", "a", 2, "g"))
        self.refused(Needed, run.lose, k)
        run.copy(k)
        run.lose(k)
        self.assertEqual(run.people["a"].heard("g"), (2, ("g",), ()))

    def test_what_was_heard_is_none_when_tied_again(self):
        # a's way went by g: tied again, it hears g's letter first.
        run = self.still(TRIANGLE)
        run.change(("untie", "a", "g"))
        run.change(("tie", "a", "g"))
        self.assertEqual(run.choice()["a"], tuple("abg"))

    def test_a_letter_off_the_road_leaves_its_nr(self):
        run = Run(town("g", "ag", "ag"))
        self.assertEqual(run.road(), [letter("g", "a", 1, "g")])
        run.change(("untie", "a", "g"))
        self.assertEqual(run.road(), [])
        run.change(("tie", "a", "g"))
        self.assertEqual(run.road(), [letter("g", "a", 2, "g")])
        run.come(0)
        self.assertEqual(run.road(), [letter("a", "g", 1, "ag")])

    def test_like(self):
        run = self.still(TRIANGLE)
        likings = (((("from", "b"),), 5),)
        run.change(("like", "a", likings))
        self.assertEqual(run.town(), town("g", "abg", "ab ag bg", {"a": likings}))
        self.assertEqual(run.choice(), choice(a="abg", b="bg", g="g"))
        self.assertEqual(run.road(), [letter("a", "b", 2, "abg"), letter("a", "g", 2, "abg")])
        self.assertEqual(run.changes(), {"a": 2, "b": 1, "g": 1})
        run.change(("like", "a", (((), None),)))
        self.assertEqual(run.choice()["a"], None)
        self.assertEqual(run.road()[2:], [letter("a", "b", 3, None), letter("a", "g", 3, None)])

    def test_the_goals_likings(self):
        run = self.still(TRIANGLE)
        run.change(("like", "g", (((), None),)))
        self.assertEqual(run.choice()["g"], ("g",))
        self.assertEqual(run.road(), [])

    def test_hand(self):
        run = self.still(TRIANGLE)
        hands = (((("to", "b"),), KEEP), ((), ("put", "m")))
        run.change(("hand", "a", hands))
        self.assertEqual(run.town(), town("g", "abg", "ab ag bg", {}, {"a": hands}))
        self.assertEqual(run.road(), [letter("a", "b", 2, None), letter("a", "g", 2, "ag", "m")])
        self.assertEqual(run.changes(), {"a": 1, "b": 1, "g": 1})
        run.change(("hand", "g", (((("to", "a"),), KEEP),)))
        self.assertEqual(run.road()[2:], [letter("g", "a", 2, None)])

    def test_the_same_tuple_as_before(self):
        place = town("g", "abg", "ab ag bg", {"a": via("b")}, {"b": [((), ("put", "m"))]})
        run = self.still(place)
        before = seen(run)
        for house, likings, hands in zip(place[1], place[3], place[4]):
            run.change(("like", house, likings))
            run.change(("hand", house, hands))
        self.assertEqual(seen(run), before)

    def test_only_the_houses_named_choose_anew(self):
        run = Run(TRIANGLE)
        run.change(("like", "b", (((), 7),)))
        self.assertEqual(run.road(), [letter("g", "a", 1, "g"), letter("g", "b", 1, "g")])

    def test_letters_on_the_road_are_heard_in_the_new_town(self):
        run = Run(TRIANGLE)
        run.change(("like", "a", (((("from", "g"),), None),)))
        run.come(0)
        self.assertEqual(run.choice()["a"], None)
        run.change(("like", "a", ()))
        self.assertEqual(run.choice()["a"], ("a", "g"))

    def test_all_that_is_no_deed(self):
        run = self.still(test_deeds.PLACE)
        run.change(("hand", "g", (((), ("put", "m")),)))
        before = seen(run)
        self.assertNotEqual(before[0], [])
        for thing in test_deeds.WRONG + NEVER_RIGHT:
            self.refused(NoDeed, run.change, thing)
        self.assertEqual(seen(run), before)

    def test_all_that_is_one(self):
        for deed in test_deeds.RIGHT:
            self.assertIsNone(Run(test_deeds.PLACE).change(deed))


def some_deed(chance, place):
    """A deed that the town lets, by chance."""
    one, other = chance.sample(place[1], 2)
    made = oracle.some_town(chance, "".join(place[1]), 3, 2)
    word = chance.choice(("tie", "like", "hand"))
    if word == "tie":
        return ("untie" if tuple(sorted((one, other))) in place[2] else "tie", one, other)
    return (word, one, made[3 if word == "like" else 4][place[1].index(one)])


class AgainstThePlainReckoning(unittest.TestCase):
    def same(self, run, plain):
        self.assertEqual(run.road(), plain.on_road)
        self.assertEqual(run.choice(), plain.choice())
        self.assertEqual(run.changes(), plain.changes())
        self.assertEqual(run.town(), plain.place)
        self.assertIs(run.is_still(), plain.is_still())

    def test_all_that_can_be_done(self):
        chance = random.Random(41)
        for _ in range(25):
            place = oracle.some_town(chance, "abcd", 3, 2)
            run, plain = Run(place), oracle.PlainRun(place)
            self.same(run, plain)
            for _ in range(60):
                k = chance.randrange(len(plain.on_road) or 1)
                what = chance.random()
                if what < 0.12 or not plain.on_road:
                    deed = some_deed(chance, plain.place)
                    run.change(deed)
                    plain.change(deed)
                elif what < 0.65:
                    run.come(k)
                    plain.come(k)
                elif what < 0.8:
                    run.copy(k)
                    plain.copy(k)
                elif plain.may_lose(k):
                    run.lose(k)
                    plain.on_road.pop(k)
                else:
                    with self.assertRaises(Needed):
                        run.lose(k)
                self.same(run, plain)

    def test_behind_changes_at_the_rest_of_the_town_begun_anew(self):
        chance = random.Random(42)
        many = 0
        for _ in range(80):
            run = Run(oracle.some_town(chance, "abcd", 2, 1))
            for _ in range(6):
                for _ in range(chance.randint(0, 12)):
                    if run.road():
                        run.come(chance.randrange(len(run.road())))
                run.change(some_deed(chance, run.town()))
            if ranks(run.town()) is not None:
                run_on(run, chance)
                self.assertEqual(run.choice(), rest(run.town()))
                anew = Run(run.town())
                run_on(anew, chance)
                self.assertEqual(run.choice(), anew.choice())
                many += 1
        self.assertGreater(many, 30)


if __name__ == "__main__":
    unittest.main()
