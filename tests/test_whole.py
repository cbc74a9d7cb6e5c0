"""What is promised over the whole program, over towns that are drawn by seeded chance."""

import copy
import itertools
import random
import unittest

import oracle
from restways.counts import mosts
from restways.desk import Desk
from restways.errors import HasRing
from restways.exploring import explored
from restways.kin import elder_ring, keeps_kin
from restways.kintowns import kin_town
from restways.lets import lets, marks_of
from restways.papers import named
from restways.reading import read_town
from restways.rests import is_rest, offered, rests
from restways.ringpapers import shows_ranks, shows_ring
from restways.rings import ranks, rest, ring
from restways.roundpapers import shows_rests, shows_round
from restways.runs import Run
from restways.showing import show_town
from restways.states import begun, come, comings
from restways.sworn import Sworn
from test_kin import other_rule, rank_kin
from test_runs import run_on, some_deed


def drawn(seed, many, houses="abcd"):
    """So many towns: half of them tame, half of them unruly."""
    chance = random.Random(seed)
    for turn in range(many):
        yield chance, oracle.some_town(chance, houses, 4, 3) if turn % 2 else oracle.unruly_town(chance, houses)


class Whole(unittest.TestCase):
    def test_a_ring_or_ranks(self):
        told = {True: 0, False: 0}
        for chance, place in drawn(131, 150):
            found, ranked = ring(place), ranks(place)
            self.assertNotEqual(found is None, ranked is None)
            self.assertIs(shows_ring(place, found), found is not None)
            self.assertIs(shows_ranks(place, ranked), ranked is not None)
            told[found is None] += 1
        self.assertGreater(min(told.values()), 30)

    def test_b_the_one_rest(self):
        many = 0
        for chance, place in drawn(132, 120):
            if ranks(place) is None:
                with self.assertRaises(HasRing):
                    rest(place)
                continue
            many += 1
            self.assertEqual(rests(place), [rest(place)])
            for _ in range(3):
                run = Run(place)
                run_on(run, chance)
                self.assertEqual(run.choice(), rest(place))
                for house, times in run.changes().items():
                    self.assertLessEqual(times, mosts(place)[house])
        self.assertGreater(many, 40)

    def test_b_each_rest(self):
        many = 0
        for chance, place in drawn(133, 80):
            found = rests(place)
            run = Run(place)
            for _ in range(300):
                if not run.is_still():
                    run.come(chance.randrange(len(run.road())))
            if run.is_still():
                self.assertIn(run.choice(), found)
            for choice in found:
                many += 1
                self.assertIs(is_rest(place, choice), True)
                for house, way in choice.items():
                    if house != place[0]:
                        self.assertEqual(way, (offered(place, choice, house) + [None])[0])
                    for at in range(len(way or ())):
                        self.assertEqual(choice[way[at]], way[at:])
        self.assertGreater(many, 60)

    def test_c_rests_or_a_round(self):
        words = {"open": 0, "rests": 0, "round": 0}
        for chance, place in drawn(134, 240, "abc"):
            for width in (1, 2, 3):
                word, paper = explored(place, chance.choice((12, 2000)), width)
                words[word] += 1
                self.assertIs(shows_rests(place, paper, width), word == "rests")
                self.assertIs(shows_round(place, paper, width), word == "round")
                if ranks(place) is not None:
                    self.assertIn(word, ("open", "rests"))
        self.assertGreater(min(words.values()), 5)

    def test_c_a_paper_is_right_of_fair_rows(self):
        # Rows by chance, which are fair: with a paper each of them ends.
        for chance, place in drawn(135, 30, "abc"):
            word, paper = explored(place, 500, 2)
            if word != "rests":
                continue
            at = begun(place)
            while comings(at):
                at = come(place, at, chance.choice(comings(at)), 2)
                self.assertIn(at, paper)
            self.assertIsNone(paper[at][1])

    def test_d_kin(self):
        chance = random.Random(136)
        many = 0
        for turn in range(200):
            rows = rank_kin(chance, "abcde", 0.6)
            self.assertIsNone(elder_ring(rows))
            fond = {pair: chance.randint(0, 99) for pair in itertools.permutations("abcde", 2)}
            place = kin_town(chance.choice("abcde"), rows, fond)
            self.assertIs(keeps_kin(place, rows), True)
            self.assertIsNone(ring(place))
            other = other_rule(chance, place)
            if keeps_kin(other, rows):
                many += 1
                self.assertIsNone(ring(other))
                self.assertIs(shows_ranks(other, ranks(other)), True)
        self.assertGreater(many, 50)

    def test_e_changes(self):
        many = 0
        for chance, place in drawn(137, 100):
            run = Run(place)
            for _ in range(5):
                for _ in range(chance.randint(0, 10)):
                    if run.road():
                        run.come(chance.randrange(len(run.road())))
                run.change(some_deed(chance, run.town()))
            if ranks(run.town()) is not None:
                many += 1
                run_on(run, chance)
                self.assertEqual(run.choice(), rest(run.town()))
        self.assertGreater(many, 20)

    def test_f_lies(self):
        told = set()
        for chance, place in drawn(138, 60, "abcde"):
            liars = tuple(chance.sample([house for house in place[1] if house != place[0]], 2))
            if not any(liar in pair for liar in liars for pair in place[2]):
                continue
            sworn = Sworn(place, liars)
            for _ in range(40):
                if chance.random() < 0.4 or not sworn.road():
                    sworn.lie(oracle.some_lie(chance, place, liars, sworn.sent()))
                else:
                    sworn.come(chance.randrange(len(sworn.road())))
            sent = sworn.sent()
            made = [first[:2] + first[3:4] for first, papers in sent]
            for house, way in sworn.choice().items():
                self.assertTrue(way is None or marks_of(place, way) is not None)
                for k in range(1, len(way or ())):
                    self.assertTrue(way[k] in liars or (way[k], way[k - 1], way[k:]) in made)
            names = named(place, sent)
            told.update(word for house, word in names)
            self.assertTrue({house for house, word in names} <= set(liars))
            for (one, to, nr, way, marks), papers in sent:
                for k in range(1, len(way or ())):
                    if way[k] not in liars and (way[k], way[k - 1], way[k:]) not in made:
                        self.assertIn((one, "false"), names)
        self.assertEqual(told, {"false", "twin"})

    def test_g_texts(self):
        for chance, place in drawn(139, 80):
            text = show_town(place)
            self.assertEqual(read_town(text), place)
            desk = Desk(text)
            run = Run(place)
            for _ in range(10):
                if run.road():
                    k = chance.randrange(len(run.road()))
                    run.come(k)
                    self.assertEqual(desk.say(f"come {k}"), "ok")
            self.assertEqual(desk.say("go").split(" "), ["-" if way is None else ".".join(way)
                                                         for way in run.choice().values()])
            for house, ways in lets(place).items():
                self.assertEqual(desk.say(f"lets {house}"), " ".join(map(".".join, ways)) or "-")

    def test_nothing_handed_in_is_changed(self):
        rows = (("a", "b", "over"), ("a", "c", "equal"), ("b", "c", "over"))
        fond = {("a", "b"): 5, ("x", "y"): 6}
        place = kin_town("c", rows, fond)
        choice = rest(place)
        paper = explored(place, 5000, 1)[1]
        sent = Sworn(place, ()).sent()
        things = (place, rows, fond, choice, paper, sent, ring(oracle.unruly_town(random.Random(1), "abcd")), ranks(place))
        before = copy.deepcopy(things)
        for _ in range(2):
            kin_town("c", rows, fond)
            keeps_kin(place, rows)
            elder_ring(rows)
            is_rest(place, choice)
            offered(place, choice, "a")
            shows_rests(place, paper)
            shows_round(place, paper)
            shows_ring(place, things[6])
            shows_ranks(place, things[7])
            named(place, sent)
            show_town(place)
            self.assertEqual(things, before)

    def test_asked_again_the_same_is_told(self):
        for chance, place in drawn(140, 20):
            asked = (lets, rests, ring, ranks, begun, show_town, lambda one: explored(one, 300, 2), lambda one: Run(one).road())
            for ask in asked:
                self.assertEqual(ask(place), ask(place))


if __name__ == "__main__":
    unittest.main()
