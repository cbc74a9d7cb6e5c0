import random
import unittest

import oracle
from restways.errors import Forged, Needed, NoLetter
from restways.papers import is_right, named
from restways.runs import Run
from restways.rings import ranks, rest
from restways.sworn import Sworn
from samples import LONG_NAMES, NEVER_RIGHT, NO_REST, TWO_RESTS, all_ties, town
from test_houses import letter
from test_runs import CHAIN, DETOUR, TRIANGLE, Base, choice, run_on

KEEP = ("keep",)
SQUARE = town("g", "abcg", all_ties("abcg"))


def seen(sworn):
    """All that a sworn run tells."""
    return (sworn.road(), sworn.choice(), sworn.is_still(), sworn.sent())


def firsts(letters):
    return [first for first, papers in letters]


def place_of(sworn, one, to, nr=None):
    """The place on the road of the sealed letter from one to the other."""
    found = [k for k, row in enumerate(firsts(sworn.road())) if row[:2] == (one, to) and nr in (None, row[2])]
    return found[0]


def come(sworn, one, to, nr=None):
    """The sealed letter from one to the other comes."""
    sworn.come(place_of(sworn, one, to, nr))


class Begun(Base):
    def test_the_road(self):
        sworn = Sworn(TRIANGLE, ())
        road = [(letter("g", "a", 1, "g"), ()), (letter("g", "b", 1, "g"), ())]
        self.assertEqual(seen(sworn), (road, choice(a=None, b=None, g="g"), False, road))

    def test_one_house(self):
        self.assertEqual(seen(Sworn(town("g", "g"), ())), ([], {"g": ("g",)}, True, []))

    def test_with_liars(self):
        road = [(letter("g", "a", 1, "g"), ()), (letter("g", "b", 1, "g"), ())]
        self.assertEqual(seen(Sworn(TRIANGLE, ("a",))), (road, choice(b=None, g="g"), False, road))
        # What is on the road to liars alone is heard by nobody.
        self.assertEqual(seen(Sworn(TRIANGLE, ("a", "b"))), (road, choice(g="g"), True, road))
        self.assertEqual(seen(Sworn(TRIANGLE, ("b", "a"))), (road, choice(g="g"), True, road))

    def test_lists_and_dicts_are_new(self):
        sworn = Sworn(TRIANGLE, ("a",))
        before = seen(sworn)
        sworn.road().clear()
        sworn.choice().clear()
        sworn.sent().clear()
        self.assertEqual(seen(sworn), before)

    def test_two_have_nothing_in_common(self):
        one, other = Sworn(TRIANGLE, ("a",)), Sworn(TRIANGLE, ("a",))
        before = seen(other)
        one.lie((letter("a", "b", 1, None), ()))
        run_on(one, random.Random(1))
        self.assertEqual(seen(other), before)


class Honest(Base):
    def test_papers_behind(self):
        sworn = Sworn(CHAIN, ())
        self.assertIsNone(sworn.come(0))
        from_g = letter("g", "b", 1, "g")
        self.assertEqual(sworn.road(), [(letter("b", "a", 1, "bg"), (from_g,)), (letter("b", "g", 1, "bg"), (from_g,))])
        sworn.come(0)
        from_b = letter("b", "a", 1, "bg")
        self.assertEqual(sworn.road()[1:], [(letter("a", "b", 1, "abg"), (from_b, from_g))])
        self.assertEqual(sworn.sent(), [(from_g, ()), (from_b, (from_g,)), (letter("b", "g", 1, "bg"), (from_g,)),
                                        (letter("a", "b", 1, "abg"), (from_b, from_g))])

    def test_no_way_has_no_papers(self):
        # b keeps from a what comes by c: a letter of none, and a's way is none, too.
        place = town("g", "abcg", "ab bc bg cg", {"b": [((("from", "c"),), 5)]},
                     {"b": [((("from", "c"), ("to", "a")), KEEP)]})
        sworn = Sworn(place, ())
        for one, to in ("gb", "ba", "gc", "cb", "ba"):
            come(sworn, one, to)
        self.assertIn((letter("b", "a", 2, None), ()), sworn.sent())
        self.assertIn((letter("a", "b", 2, None), ()), sworn.sent())

    def test_marks(self):
        place = town("g", "abg", "ab bg", {}, {"g": [((), ("put", "m"))], "b": [((("mark", "m"),), ("put", "n"))]})
        sworn = Sworn(place, ())
        come(sworn, "g", "b")
        come(sworn, "b", "a")
        self.assertEqual(sworn.road()[-1], (letter("a", "b", 1, "abg", "mn"), (letter("b", "a", 1, "bg", "mn"),
                                                                                letter("g", "b", 1, "g", "m"))))
        self.assertIs(is_right(place, sworn.road()[-1]), True)

    def test_the_newest_paper_heard(self):
        # b goes by c behind its second letter: a seals with that one.
        sworn = Sworn(DETOUR, ())
        for one, to in ("gb", "ba", "gc", "cb"):
            come(sworn, one, to)
        self.assertEqual([paper[2] for paper in sworn.sent()[-1][1]], [1, 1])
        come(sworn, "b", "a")
        first, papers = sworn.road()[-1]
        self.assertEqual(first, letter("a", "b", 2, "abcg"))
        self.assertEqual(papers, (letter("b", "a", 2, "bcg"), letter("c", "b", 1, "cg"), letter("g", "c", 1, "g")))

    def test_the_same_told_anew(self):
        # c tells b the same way again with a greater nr: b tells nothing, and seals with that paper later on.
        place = town("g", "abcdg", "ab bc bd cg dg", {"b": [((("from", "d"),), 9)]})
        sworn = Sworn(place, ("c", "d"))
        by_c, by_d = (letter("g", "c", 1, "g"),), (letter("g", "d", 1, "g"),)
        told = []
        for sealed in ((letter("c", "b", 1, "cg"), by_c), (letter("c", "b", 5, "cg"), by_c),
                       (letter("d", "b", 1, "dg"), by_d), (letter("d", "b", 2, None), ())):
            sworn.lie(sealed)
            many = len(sworn.sent())
            sworn.come(len(sworn.road()) - 1)
            told.append([one for one in sworn.sent()[many:] if one[0][1] == "a"])
        self.assertEqual(told, [
            [(letter("b", "a", 1, "bcg"), (letter("c", "b", 1, "cg"),) + by_c)], [],
            [(letter("b", "a", 2, "bdg"), (letter("d", "b", 1, "dg"),) + by_d)],
            [(letter("b", "a", 3, "bcg"), (letter("c", "b", 5, "cg"),) + by_c)]])
        self.assertEqual(named(place, sworn.sent()), [])

    def test_as_a_run(self):
        chance = random.Random(101)
        for turn in range(40):
            place = oracle.some_town(chance, "abcd", 3, 2) if turn > 3 else (TRIANGLE, DETOUR, NO_REST, TWO_RESTS)[turn]
            run, sworn = Run(place), Sworn(place, ())
            for _ in range(60):
                self.assertEqual(firsts(sworn.road()), run.road())
                self.assertEqual(sworn.choice(), run.choice())
                self.assertIs(sworn.is_still(), run.is_still())
                if not run.road():
                    break
                k = chance.randrange(len(run.road()))
                deed = chance.choice(("come", "come", "copy", "lose"))
                try:
                    getattr(run, deed)(k)
                except Needed:
                    self.refused(Needed, sworn.lose, k)
                else:
                    self.assertIsNone(getattr(sworn, deed)(k))
            for sealed in sworn.sent():
                self.assertIs(is_right(place, sealed), True)
            self.assertEqual(named(place, sworn.sent()), [])

    def test_to_the_rest(self):
        chance = random.Random(102)
        for _ in range(20):
            place = oracle.some_town(chance, "abcde", 3, 2)
            if ranks(place) is not None:
                sworn = Sworn(place, ())
                run_on(sworn, chance)
                self.assertEqual(sworn.choice(), rest(place))

    def test_names_of_several_letters(self):
        sworn = Sworn(LONG_NAMES, ("hut",))
        run_on(sworn, random.Random(103))
        self.assertEqual(sworn.choice(), {"hill": ("hill", "home"), "home": ("home",), "mill": None})
        sworn.lie((("hut", "mill", 1, ("hut", "home"), ("dusty",)), (("home", "hut", 1, ("home",), ()),)))
        sworn.come(len(sworn.road()) - 1)
        self.assertEqual(sworn.choice()["mill"], ("mill", "hut", "home"))


class Lies(Base):
    def test_on_the_road_behind_the_others(self):
        sworn = Sworn(TRIANGLE, ("a",))
        lie = (letter("a", "b", 1, None), ())
        self.assertIsNone(sworn.lie(lie))
        self.assertEqual(sworn.road(), [(letter("g", "a", 1, "g"), ()), (letter("g", "b", 1, "g"), ()), lie])
        self.assertEqual(sworn.sent(), sworn.road())
        sworn.lie(lie)
        self.assertEqual(sworn.sent()[2:], [lie, lie])
        sworn.come(2)
        self.assertEqual(sworn.road()[2:], [lie])
        self.assertEqual(sworn.sent()[2:], [lie, lie])

    def test_a_first_paper_that_is_not_a_liars(self):
        sworn = Sworn(TRIANGLE, ("a",))
        come(sworn, "g", "b")
        before = seen(sworn)
        for sealed in sworn.sent() + [(letter("b", "a", 9, None), ()), (letter("g", "a", 2, None), ()),
                                      (letter("g", "b", 1, "g"), ()), (letter("b", "g", 1, "bag"), ())]:
            self.refused(Forged, sworn.lie, sealed)
        self.assertEqual(seen(sworn), before)

    def test_a_paper_that_its_house_did_not_make(self):
        sworn = Sworn(SQUARE, ("a", "b"))
        before = seen(sworn)
        from_g = letter("g", "b", 1, "g")
        self.assertIn((from_g, ()), sworn.sent())
        for other in (letter("g", "b", 2, "g"), letter("g", "b", 1, None), letter("g", "b", 1, "g", "m"),
                      letter("c", "b", 1, "cg"), letter("c", "b", 1, None)):
            for papers in ((other,), (from_g, other), (other, from_g), (letter("b", "a", 1, "bg"), other)):
                self.refused(Forged, sworn.lie, (letter("a", "c", 1, "abg"), papers))
        self.assertEqual(seen(sworn), before)
        sworn.lie((letter("b", "c", 1, "bg"), (from_g,)))
        # c hears it and seals its way: from then on there is such a paper.
        told = letter("c", "b", 1, "cbg")
        self.refused(Forged, sworn.lie, (letter("a", "c", 1, None), (told,)))
        come(sworn, "b", "c")
        self.assertIn(told, firsts(sworn.sent()))
        sworn.lie((letter("a", "c", 1, None), (told,)))

    def test_a_paper_made_goes_on_when_its_letter_is_gone(self):
        sworn = Sworn(TRIANGLE, ("a",))
        come(sworn, "g", "a")
        sworn.lie((letter("a", "b", 1, "ag"), (letter("g", "a", 1, "g"),)))
        self.assertEqual(firsts(sworn.road()), [letter("g", "b", 1, "g"), letter("a", "b", 1, "ag")])

    def test_papers_put_together(self):
        # Of two liars one behind the other: their own papers as they like, and the goal's.
        place = town("g", "abcg", "ab bc cg")
        sworn = Sworn(place, ("b", "c"))
        papers = (letter("c", "b", 7, "cg"), letter("g", "c", 1, "g"))
        sworn.lie((letter("b", "a", 3, "bcg"), papers))
        come(sworn, "b", "a")
        self.assertEqual(sworn.choice()["a"], tuple("abcg"))
        self.assertEqual(sworn.road()[-1], (letter("a", "b", 1, "abcg"), (letter("b", "a", 3, "bcg"),) + papers))
        self.assertEqual(named(place, sworn.sent()), [])

    def test_what_is_not_right_is_passed_over(self):
        wrong = (
            (letter("a", "b", 5, "ag"), ()), (letter("a", "b", 5, "ag", "m"), (letter("g", "a", 1, "g"),)),
            (letter("a", "b", 5, "acg"), (letter("g", "a", 1, "g"),)), (letter("a", "b", 5, "g"), ()),
            (letter("a", "b", 5, None), (letter("g", "a", 1, "g"),)), (letter("a", "b", 5, "aaaa"), ()),
        )
        for sealed in wrong:
            sworn = Sworn(SQUARE, ("a",))
            sworn.lie(sealed)
            before = seen(sworn)
            k = place_of(sworn, "a", "b")
            sworn.copy(k)
            self.assertEqual(seen(sworn), before)
            sworn.come(k)
            self.assertEqual(sworn.road(), before[0][:k])
            self.assertEqual(sworn.choice(), before[1])
            self.assertEqual(sworn.sent(), before[3])
            self.assertEqual(named(SQUARE, sworn.sent()), [("a", "false")])
            # Its nr, too: a lesser one that is right is heard.
            sworn.lie((letter("a", "b", 1, "ag"), (letter("g", "a", 1, "g"),)))
            come(sworn, "a", "b")
            self.assertEqual(sworn.choice()["b"], tuple("bag"))

    def test_nrs_of_liars(self):
        sworn = Sworn(TRIANGLE, ("a",))
        right = (letter("a", "b", 7, "ag"), (letter("g", "a", 1, "g"),))
        sworn.lie(right)
        come(sworn, "a", "b")
        self.assertEqual(sworn.choice()["b"], tuple("bag"))
        for nr in (7, 6, 1):
            sworn.lie((letter("a", "b", nr, None), ()))
            come(sworn, "a", "b")
            self.assertEqual(sworn.choice()["b"], tuple("bag"))
        sworn.lie((letter("a", "b", 8, None), ()))
        come(sworn, "a", "b")
        self.assertEqual(sworn.choice()["b"], None)
        self.assertEqual(named(TRIANGLE, sworn.sent()), [("a", "twin")])

    def test_a_liars_likings_are_known(self):
        # a likes no way, and says it goes by g: not right, as its likings are known.
        place = town("g", "abg", "ab ag bg", {"a": [((), None)]})
        sworn = Sworn(place, ("a",))
        sworn.lie((letter("a", "b", 1, "ag"), (letter("g", "a", 1, "g"),)))
        come(sworn, "a", "b")
        self.assertEqual(sworn.choice()["b"], None)
        self.assertEqual(named(place, sworn.sent()), [("a", "false")])

    def test_beyond_the_form(self):
        # Nothing is refused for what lies beyond a bound: it is passed over.
        sworn = Sworn(TRIANGLE, ("a",))
        many = tuple("z" * (1 + k % 8) for k in range(91))
        for sealed in ((("a", "b", 1, ("a", "g"), many), (letter("g", "a", 1, "g"),)),
                       (letter("a", "b", 0, None), ()), (letter("a", "b", 1, "ag"), (letter("g", "a", 1, "g"),) * 11),
                       (letter("a", "b", 1, "abcdefghijk"), ())):
            sworn.lie(sealed)
            self.assertEqual(sworn.road()[-1], sealed)
            come(sworn, "a", "b")
            self.assertEqual(sworn.choice()["b"], None)


class Liars(Base):
    def test_they_hear_nothing_and_tell_nothing(self):
        sworn = Sworn(TRIANGLE, ("a",))
        sworn.copy(0)
        self.assertEqual(len(sworn.road()), 2)
        sworn.come(0)
        self.assertEqual(sworn.road(), [(letter("g", "b", 1, "g"), ())])
        come(sworn, "g", "b")
        self.assertEqual(firsts(sworn.road()), [letter("b", "a", 1, "bg"), letter("b", "g", 1, "bg")])
        come(sworn, "b", "a")
        self.assertEqual(firsts(sworn.road()), [letter("b", "g", 1, "bg")])
        self.assertEqual(len(sworn.sent()), 4)

    def test_they_hear_one_another_no_more(self):
        sworn = Sworn(TRIANGLE, ("a", "b"))
        sworn.lie((letter("a", "b", 1, "ag"), (letter("g", "a", 1, "g"),)))
        self.assertIs(sworn.is_still(), True)
        come(sworn, "a", "b")
        self.assertEqual(len(sworn.road()), 2)
        self.assertEqual(sworn.choice(), choice(g="g"))

    def test_the_goal_hears_them(self):
        sworn = Sworn(TRIANGLE, ("a", "b"))
        sworn.lie((letter("a", "g", 1, "ag"), (letter("g", "a", 1, "g"),)))
        self.assertIs(sworn.is_still(), False)
        come(sworn, "a", "g")
        self.assertIs(sworn.is_still(), True)
        self.assertEqual(sworn.choice(), choice(g="g"))


class Lose(Base):
    def test_needed_between_honest_houses(self):
        sworn = Sworn(TRIANGLE, ("a",))
        before = seen(sworn)
        self.refused(Needed, sworn.lose, 1)
        self.assertEqual(seen(sworn), before)
        sworn.copy(1)
        self.assertIsNone(sworn.lose(1))
        self.assertEqual(firsts(sworn.road())[0], letter("g", "a", 1, "g"))

    def test_what_is_told_to_a_liar(self):
        sworn = Sworn(TRIANGLE, ("a",))
        sworn.lose(0)
        self.assertEqual(firsts(sworn.road()), [letter("g", "b", 1, "g")])

    def test_what_a_liar_told(self):
        sworn = Sworn(TRIANGLE, ("a",))
        for sealed in ((letter("a", "b", 1, "ag"), (letter("g", "a", 1, "g"),)), (letter("a", "b", 2, "ag"), ()),
                       (letter("a", "g", 1, None), ())):
            sworn.lie(sealed)
            sworn.lose(2)
            self.assertEqual(len(sworn.road()), 2)
            self.assertIn(sealed, sworn.sent())

    def test_where_a_greater_one_is_on_the_road(self):
        sworn = Sworn(DETOUR, ())
        for one, to in ("gb", "gc", "cb"):
            come(sworn, one, to)
        self.refused(Needed, sworn.lose, place_of(sworn, "b", "a", 2))
        sworn.lose(place_of(sworn, "b", "a", 1))
        self.refused(Needed, sworn.lose, place_of(sworn, "b", "a", 2))

    def test_no_letter_of_anything(self):
        sworn = Sworn(TRIANGLE, ("a",))
        sworn.lie((letter("a", "b", 1, None), ()))
        before = seen(sworn)
        for k in NEVER_RIGHT + (3, -1, None, "0", (0,), [0], True, False):
            for deed in (sworn.come, sworn.copy, sworn.lose):
                self.refused(NoLetter, deed, k)
        self.assertEqual(seen(sworn), before)


class Still(Base):
    def test_what_would_not_be_heard(self):
        sworn = Sworn(TRIANGLE, ("a",))
        come(sworn, "g", "b")
        come(sworn, "b", "g")
        # What is left goes to the liar.
        self.assertEqual([first[1] for first in firsts(sworn.road())], ["a", "a"])
        self.assertIs(sworn.is_still(), True)
        sworn.lie((letter("a", "b", 1, "ag"), ()))
        self.assertIs(sworn.is_still(), True)
        sworn.lie((letter("a", "b", 1, "ag"), (letter("g", "a", 1, "g"),)))
        self.assertIs(sworn.is_still(), False)
        sworn.copy(3)
        self.assertEqual(len(sworn.road()), 4)
        self.assertIs(sworn.is_still(), True)
        sworn.lie((letter("a", "b", 2, None), ()))
        self.assertIs(sworn.is_still(), False)


class AgainstThePlainReckoning(Base):
    def same(self, sworn, plain):
        self.assertEqual(sworn.road(), plain.on_road)
        self.assertEqual(sworn.sent(), plain.all_sent)
        self.assertEqual(sworn.choice(), plain.choice())
        self.assertIs(sworn.is_still(), plain.is_still())

    def is_kept(self, sworn, plain):
        """What holds whatever lies are told."""
        made = [first[:2] + first[3:4] for first in firsts(plain.all_sent) if first[0] not in plain.liars]
        for house, way in sworn.choice().items():
            if way is not None:
                self.assertIn(way, plain.marks)
                for k in range(1, len(way)):
                    self.assertTrue(way[k] in plain.liars or (way[k], way[k - 1], way[k:]) in made)
        told = named(plain.town, sworn.sent())
        self.assertEqual(told, oracle.named(plain.town, sworn.sent()))
        self.assertEqual([one for one, word in told if one not in plain.liars], [])
        for first, papers in sworn.sent():
            way = first[3] or ()
            for k in range(1, len(way)):
                if way[k] not in plain.liars and (way[k], way[k - 1], way[k:]) not in made:
                    self.assertIn((first[0], "false"), told)
            if first[0] not in plain.liars:
                self.assertIs(is_right(plain.town, (first, papers)), True)
        return told

    def test_all_that_can_be_done(self):
        chance = random.Random(104)
        words, by_liars = {"false": 0, "twin": 0}, 0
        for turn in range(120):
            place = oracle.some_town(chance, "abcde", 2, 2)
            others = [house for house in place[1] if house != place[0]]
            liars = tuple(chance.sample(others, chance.choice((1, 1, 2, 3))))
            if not any(house in pair for house in liars for pair in place[2]):
                continue
            sworn, plain = Sworn(place, liars), oracle.PlainSworn(place, liars)
            for _ in range(50):
                self.same(sworn, plain)
                k = chance.randrange(len(plain.on_road) or 1)
                what = chance.random()
                if what < 0.3 or not plain.on_road:
                    sealed = oracle.some_lie(chance, place, liars, plain.all_sent)
                    self.assertIs(plain.is_forged(sealed), False)
                    sworn.lie(sealed)
                    plain.put(sealed)
                elif what < 0.8:
                    sworn.come(k)
                    plain.come(k)
                elif what < 0.9:
                    sworn.copy(k)
                    plain.copy(k)
                elif plain.may_lose(k):
                    sworn.lose(k)
                    plain.on_road.pop(k)
                else:
                    self.refused(Needed, sworn.lose, k)
            by_liars += any(liar in (way or ()) for way in sworn.choice().values() for liar in liars)
            for one, word in self.is_kept(sworn, plain):
                words[word] += 1
        self.assertGreater(min(words.values()), 10)
        self.assertGreater(by_liars, 10)

    def test_forged_ones(self):
        chance = random.Random(105)
        told = {True: 0, False: 0}
        for _ in range(60):
            place = oracle.some_town(chance, "abcd", 2, 1)
            liars = tuple(chance.sample([house for house in place[1] if house != place[0]], 2))
            right = list(oracle.right_letters(place))
            papers = [paper for first, behind in right for paper in (first,) + behind]
            sworn, plain = Sworn(place, liars), oracle.PlainSworn(place, liars)
            for _ in range(20 if right else 0):
                if plain.on_road and chance.random() < 0.5:
                    k = chance.randrange(len(plain.on_road))
                    sworn.come(k)
                    plain.come(k)
                first, behind = chance.choice(right)
                sealed = (first, behind if chance.random() < 0.7 else (chance.choice(papers),))
                if plain.is_forged(sealed):
                    self.refused(Forged, sworn.lie, sealed)
                else:
                    sworn.lie(sealed)
                    plain.put(sealed)
                told[plain.is_forged(sealed)] += 1
                self.same(sworn, plain)
        self.assertGreater(min(told.values()), 100)


if __name__ == "__main__":
    unittest.main()
