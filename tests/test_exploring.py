import inspect
import random
import unittest

import oracle
from restways.exploring import explored, knots_of, round_at, stuck_pairs
from restways.rests import rests
from restways.rings import ranks, rest
from restways.states import begun, choice_of, come, comings
from samples import JUST_401, LONG_NAMES, NO_REST, TWO_RESTS, all_ties, town, via

KEEP = ("keep",)
TRIANGLE = town("g", "abg", "ab ag bg")
CHAIN = town("g", "abg", "ab bg")
# Each of the three hears the goal and the next one, and hands on its straight way to the one before it alone.
HANDS = {house: [((("not", ("to", before)),), KEEP), ((("not", ("from", "g")),), KEEP)]
         for house, before in ("ac", "ba", "cb")}
TIGHT = NO_REST[:4] + (tuple(tuple(HANDS.get(house, ())) for house in "abcg"),)


def pairs_of_two(many):
    """A town of so many times two houses that like one another, and hand their straight ways to one another alone."""
    likings, hands, ties = {}, {}, []
    for one, other in ("ab", "cd", "ef")[:many]:
        for house, mate in ((one, other), (other, one)):
            likings[house] = via(mate)
            hands[house] = [((("not", ("to", mate)),), KEEP), ((("not", ("from", "g")),), KEEP)]
            ties.append(house + "g")
        ties.append(one + other)
    return town("g", "abcdef"[:2 * many] + "g", " ".join(sorted(ties)), likings, hands)


class Base(unittest.TestCase):
    def is_paper(self, place, told, width):
        word, paper = told
        self.assertEqual(word, "rests")
        self.assertIsInstance(paper, dict)
        for rank, pair in paper.values():
            self.assertIs(type(rank), int)
            self.assertTrue(pair is None or type(pair) is tuple)
        self.assertTrue(oracle.shows_rests(place, paper, width))
        self.assertEqual(set(paper), oracle.all_states(place, width, len(paper)))

    def is_round(self, place, told, width):
        word, rows = told
        self.assertEqual(word, "round")
        self.assertIs(type(rows), tuple)
        for row in rows:
            self.assertIs(type(row), tuple)
        self.assertTrue(oracle.shows_round(place, rows, width), rows)

    def is_told(self, place, most, width):
        """Whether what is told is right; its word."""
        told = explored(place, most, width)
        self.assertIs(type(told), tuple)
        if told[0] == "rests":
            self.is_paper(place, told, width)
        elif told[0] == "round":
            self.is_round(place, told, width)
            self.assertIsNotNone(oracle.all_states(place, width, most))
        else:
            self.assertEqual(told, ("open", None))
            self.assertIsNone(oracle.all_states(place, width, most))
        return told[0]


class Open(Base):
    def test_most_of_nought(self):
        for place in (town("g", "g"), TRIANGLE, NO_REST):
            for width in (1, 2, 3):
                self.assertEqual(explored(place, 0, width), ("open", None))

    def test_one_house(self):
        self.assertEqual(explored(town("g", "g"), 1), ("rests", {(): (0, None)}))
        self.assertEqual(explored(town("g", "abg"), 1)[0], "rests")

    def test_just_as_many(self):
        for place in (CHAIN, TRIANGLE, TWO_RESTS, TIGHT):
            for width in (1, 2, 3):
                many = len(oracle.all_states(place, width, 5000))
                self.assertGreater(many, 1)
                self.assertEqual(explored(place, many - 1, width), ("open", None))
                self.assertIn(explored(place, many, width)[0], ("rests", "round"))
                self.assertEqual(explored(place, many, width), explored(place, many + 1, width))
                self.assertEqual(explored(place, 1, width), ("open", None))

    def test_more_than_a_thousand(self):
        self.assertIsNone(oracle.all_states(NO_REST, 1, 1000))
        self.assertEqual(explored(NO_REST), ("open", None))
        self.assertEqual(explored(JUST_401), ("open", None))

    def test_a_thousand_is_told_by_itself(self):
        # So many leaves at the goal, each of which hears or doesn't: states of three kinds for each of them.
        for many, word in ((6, "rests"), (7, "open")):
            leaves = "abcdefh"[:many]
            place = town("g", sorted(leaves + "g"), " ".join("".join(sorted(one + "g")) for one in leaves))
            self.assertEqual(len(oracle.all_states(place, 1, 5000)), 3 ** many)
            self.assertEqual(explored(place)[0], word)
            self.assertEqual(explored(place, most=3 ** many, width=2)[0], "rests")


class Rests(Base):
    def test_names_of_several_letters(self):
        self.is_paper(LONG_NAMES, explored(LONG_NAMES, 1000, 2), 2)

    def test_a_chain(self):
        told = explored(CHAIN)
        self.is_paper(CHAIN, told, 1)
        at = begun(CHAIN)
        self.assertEqual(told[1][at][1], ("g", "b"))
        self.assertEqual(told[1][at], explored(CHAIN)[1][at])

    def test_plain_towns(self):
        kept = town("g", "abg", "ab ag bg", {}, {"g": [((), KEEP)]})
        for width in (1, 2, 3):
            for place in (CHAIN, TRIANGLE, kept, town("g", "ag", "ag"), town("b", "abc", "ab bc")):
                self.is_paper(place, explored(place, 1000, width), width)
                self.assertIsNotNone(ranks(place))

    def test_a_ring_that_rests_where_only_the_newest_letter_is_on_the_road(self):
        self.is_paper(TWO_RESTS, explored(TWO_RESTS), 1)
        self.is_paper(TWO_RESTS, explored(TWO_RESTS, width=1), 1)

    def test_where_nothing_waits_is_a_rest(self):
        for place, width in ((CHAIN, 1), (TRIANGLE, 3), (TWO_RESTS, 1)):
            word, paper = explored(place, 1000, width)
            ends = [at for at, (rank, pair) in paper.items() if pair is None]
            found = [choice_of(place, at) for at in ends]
            self.assertEqual([comings(at) for at in ends], [[]] * len(ends))
            self.assertTrue(all(one in rests(place) for one in found))
            self.assertTrue(all(one in found for one in rests(place)))

    def test_papers_are_new(self):
        explored(TRIANGLE)[1].clear()
        self.is_paper(TRIANGLE, explored(TRIANGLE), 1)


class Rounds(Base):
    def test_two_that_like_one_another(self):
        for width in (2, 3):
            self.is_round(TWO_RESTS, explored(TWO_RESTS, 1000, width), width)

    def test_several_twos(self):
        for many in (1, 2, 3):
            place = pairs_of_two(many)
            self.assertEqual(len(oracle.all_states(place, 2, 5000)), 13 ** many)
            for width in (2, 3):
                self.is_round(place, explored(place, 13 ** many, width), width)
                self.assertEqual(explored(place, 13 ** many - 1, width), ("open", None))
            self.is_paper(place, explored(place, 10 ** many, 1), 1)
            self.assertEqual(explored(place, 10 ** many - 1, 1), ("open", None))

    def test_three_that_never_rest(self):
        self.assertEqual(rests(TIGHT), [])
        for width in (1, 2, 3):
            self.is_round(TIGHT, explored(TIGHT, 5000, width), width)

    def test_done_for_ever(self):
        word, (ahead, again) = explored(TIGHT, 5000)
        at = begun(TIGHT)
        for coming in ahead + again * 20:
            self.assertIn(coming, comings(at))
            at = come(TIGHT, at, coming)
        self.assertNotEqual(comings(at), [])

    def test_each_pair_that_waits_comes(self):
        # d hears of all that a goes by: these letters must come in again, too.
        likings = {"a": via("b"), "b": via("a")}
        place = town("g", "abdg", "ab ad ag bg", likings, {"d": [((), KEEP)]})
        for width in (2, 3):
            self.is_round(place, explored(place, 50000, width), width)

    def test_a_round_that_is_not_fair_is_none(self):
        # Without the goal's letter to c, a and b go round; c's way, once told, is liked by both most.
        likings = {"a": [((("from", "c"),), 9)] + via("b"), "b": [((("from", "c"),), 9)] + via("a"),
                   "c": [((("not", ("from", "g")),), None)]}
        hands = {"a": [((("to", "c"),), KEEP), ((("to", "g"),), KEEP), ((("from", "c"),), KEEP)],
                 "b": [((("to", "c"),), KEEP), ((("to", "g"),), KEEP), ((("from", "c"),), KEEP)],
                 "c": [((("to", "g"),), KEEP)]}
        place = town("g", "abcg", "ab ac ag bc bg cg", likings, hands)
        told = explored(place, 5000, 2)
        self.is_paper(place, told, 2)
        # There is a round within it, though: some state comes of itself.
        self.assertTrue(self.goes_round(place, set(told[1]), 2))

    def goes_round(self, place, states, width):
        """Whether some state comes of itself: what is left where all without any coming to one left are taken."""
        marks = oracle.let_marks(place)
        behind = {at: {oracle.state_come(place, at, one, width, marks) for one in comings(at)} for at in states}
        left = set(states)
        ended = True
        while ended:
            ended = {at for at in left if not behind[at] & left}
            left -= ended
        return bool(left)


def some_steps(chance, many):
    """Steps between states, all of which come of the first: for each state a list of (coming, place)."""
    steps = [[] for _ in range(many)]
    for place in range(1, many):
        steps[chance.randrange(place)].append((("t", "t", place), place))
    for k in range(chance.randint(0, 2 * many)):
        pair = chance.choice(("ab", "ba", "bc", "cb"))
        steps[chance.randrange(many)].append((tuple(pair) + (k,), chance.randrange(many)))
    return [sorted(row) for row in steps]


def comes_of(steps):
    """For each state the set of all that can come of it, itself with them."""
    found = [{place} for place in range(len(steps))]
    for _ in steps:
        found = [{one for coming, after in row for one in found[after]} | {place} for place, row in enumerate(steps)]
    return found


class Steps(unittest.TestCase):
    def test_defaults(self):
        given = inspect.signature(explored).parameters
        self.assertEqual([(name, one.default) for name, one in given.items()][1:], [("most", 1000), ("width", 1)])

    def test_knots(self):
        chance = random.Random(63)
        for _ in range(150):
            steps = some_steps(chance, chance.randint(1, 12))
            behind = comes_of(steps)
            knots = knots_of(steps)
            for one in range(len(steps)):
                for other in behind[one]:
                    self.assertEqual(knots[one] == knots[other], one in behind[other])
                    self.assertLessEqual(knots[one], knots[other])

    def test_rounds(self):
        chance = random.Random(64)
        many = 0
        for _ in range(400):
            steps = some_steps(chance, chance.randint(1, 12))
            behind = comes_of(steps)
            knots = knots_of(steps)
            for start, pairs in enumerate(stuck_pairs(steps, knots)):
                staying = [coming[:2] for one in behind[start] if start in behind[one]
                           for coming, after in steps[one] if start in behind[after]]
                self.assertEqual(pairs, [coming[:2] for coming, after in steps[start] if coming[:2] not in staying])
                if steps[start] and not pairs:
                    many += 1
                    ahead, again = round_at(steps, knots, start)
                    at = 0
                    for place, coming in enumerate(ahead + again):
                        self.assertTrue(place != len(ahead) or at == start)
                        at = dict(steps[at])[coming]
                    self.assertEqual(at, start)
                    self.assertNotEqual(again, ())
                    for coming, after in steps[start]:
                        self.assertIn(coming[:2], [one[:2] for one in again])
        self.assertGreater(many, 100)


class AllTowns(Base):
    def test_what_is_told_is_shown(self):
        chance = random.Random(61)
        words = {}
        for turn in range(100):
            place = oracle.some_town(chance, "abc", 4, 2) if turn % 2 else oracle.unruly_town(chance, "abc")
            for width in (1, 2, 3):
                word = self.is_told(place, 700 if turn % 4 < 2 else 40, width)
                words[word] = words.get(word, 0) + 1
                if ranks(place) is not None:
                    self.assertNotEqual(word, "round")
        self.assertEqual(sorted(words), ["open", "rests", "round"])
        self.assertGreater(min(words.values()), 4)

    def test_four_houses(self):
        chance = random.Random(62)
        words = set()
        for turn in range(60):
            place = oracle.some_town(chance, "abcd", 4, 6)
            width = turn % 3 + 1
            told = explored(place, 400, width)
            words.add(told[0])
            if told[0] != "open":
                self.is_told(place, 400, width)
            if ranks(place) is not None:
                self.assertNotEqual(told[0], "round")
                if told[0] == "rests":
                    ends = [choice_of(place, at) for at, (rank, pair) in told[1].items() if pair is None]
                    self.assertTrue(ends)
                    self.assertEqual([one for one in ends if one != rest(place)], [])
        self.assertTrue({"open", "rests"} <= words)


if __name__ == "__main__":
    unittest.main()
