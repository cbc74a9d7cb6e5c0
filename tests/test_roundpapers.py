import inspect
import itertools
import random
import unittest

import oracle
from restways.exploring import explored
from restways.rings import ranks
from restways.roundpapers import shows_rests, shows_round
from restways.states import begun, come, comings
from samples import JUST_401, LONG_NAMES, NEVER_RIGHT, TWO_RESTS, Alike, Sore, all_ties, nested, spoilt, town, via
from test_exploring import CHAIN, KEEP, TIGHT, TRIANGLE, pairs_of_two
from test_ringpapers import Collides
from test_states import state

PLAIN = town("g", "ag", "ag")
# b hears of c by a alone, and keeps what it goes by.
KEPT = town("g", "abcg", "ab ac ag cg", {"c": [((("not", ("from", "g")),), None)]},
            {"a": [((("to", "g"),), KEEP)], "b": [((), KEEP)], "c": [((("to", "g"),), KEEP)]})


def can_be_a_key(thing):
    try:
        hash(thing)
    except (TypeError, RuntimeError, ValueError):
        return False
    return True


def all_states(place, width):
    """All states of a small town, whether they can come of begun or not."""
    marks = oracle.let_marks(place)
    rows = []
    for one, to, heard, waits in begun(place):
        offers = [None] + [way for way in marks if way[0] == one]
        waitings = [wait for many in range(width + 1) for wait in itertools.product(offers, repeat=many)]
        rows.append([(one, to, last, wait) for last in offers for wait in waitings])
    return list(itertools.product(*rows))


def paper_of(place, states, width):
    """A paper of these states and what comes of them, of which none comes of itself: ranked by how long it can go on."""
    known = {}

    def rank(at):
        if at not in known:
            known[at] = 1 + max([rank(come(place, at, one, width)) for one in comings(at)], default=-1)
        return known[at]

    for at in states:
        rank(at)
    return {at: (many, comings(at)[-1][:2] if many else None) for at, many in known.items()}


class Rests(unittest.TestCase):
    def tells(self, answer, place, thing, *width):
        self.assertIs(shows_rests(place, thing, *width), answer)

    def test_what_explored_tells(self):
        for width in (1, 2, 3):
            for place in (town("g", "g"), town("g", "abg"), PLAIN, CHAIN, TRIANGLE, KEPT, LONG_NAMES):
                word, paper = explored(place, 5000, width)
                before = dict(paper)
                self.tells(True, place, paper, width)
                self.assertEqual(paper, before)
        self.tells(True, TWO_RESTS, explored(TWO_RESTS)[1])
        self.tells(True, pairs_of_two(2), explored(pairs_of_two(2))[1], 1)

    def test_the_width(self):
        given = inspect.signature(shows_rests).parameters
        self.assertEqual([(name, one.default) for name, one in given.items()][2:], [("width", 1)])
        # A house that hears of two ways tells two letters: with a width of 1 the older one is lost.
        for width in (1, 2, 3):
            self.tells(True, KEPT, explored(KEPT, 5000, width)[1], width)
        self.assertIs(shows_rests(KEPT, explored(KEPT, 5000, 2)[1], width=2), True)
        two = explored(TRIANGLE, 5000, 2)[1]
        one = explored(TRIANGLE, 5000, 1)[1]
        self.assertNotEqual(set(one), set(two))
        self.tells(True, TRIANGLE, two, 2)
        self.tells(False, TRIANGLE, two, 1)
        self.tells(False, TRIANGLE, two)
        self.tells(False, TRIANGLE, one, 2)

    def test_greater_ranks(self):
        for place in (PLAIN, CHAIN, TRIANGLE):
            paper = explored(place)[1]
            self.tells(True, place, {at: (rank + 5, pair) for at, (rank, pair) in paper.items()})
            self.tells(True, place, {at: (rank * 10 ** 30, pair) for at, (rank, pair) in paper.items()})

    def test_in_any_order_of_keys(self):
        paper = explored(TRIANGLE)[1]
        self.tells(True, TRIANGLE, dict(reversed(list(paper.items()))))

    def test_states_more_than_can_come(self):
        for width in (1, 2):
            every = all_states(PLAIN, width)
            paper = paper_of(PLAIN, every, width)
            self.assertEqual(len(paper), len(every))
            self.assertGreater(len(paper), len(explored(PLAIN, 5000, width)[1]))
            self.tells(True, PLAIN, paper, width)
        # Heard is what is let, be it handed on to that house or not.
        end = state("ab -", "ba bg", "bg -", "gb -")
        place = town("g", "abg", "ab bg", {}, {"b": [((), KEEP)]})
        paper = explored(place)[1]
        self.tells(True, place, paper)
        self.tells(True, place, {**paper, end: (0, None)})
        self.tells(True, place, {**paper, end: (99, None)})

    def test_states_more_that_lead_out_of_it(self):
        paper = explored(PLAIN)[1]
        told = {True: 0, False: 0}
        for at, (rank, pair) in paper_of(PLAIN, all_states(PLAIN, 1), 1).items():
            if at not in paper:
                stays = all(come(PLAIN, at, one) in paper for one in comings(at))
                self.tells(stays, PLAIN, {**paper, at: (rank + 9, pair)})
                told[stays] += 1
        self.assertGreater(min(told.values()), 2)

    def test_without_begun(self):
        for place in (PLAIN, CHAIN, TRIANGLE):
            paper = explored(place)[1]
            del paper[begun(place)]
            self.tells(False, place, paper)
            self.tells(False, place, {})
        # All that is left is right by itself.
        end = [at for at, (rank, pair) in explored(PLAIN)[1].items() if pair is None][0]
        self.tells(False, PLAIN, {end: (0, None)})
        self.tells(False, town("g", "g"), {})
        self.tells(True, town("g", "g"), {(): (7, None)})

    def test_a_coming_that_leads_out_of_it(self):
        for place in (PLAIN, CHAIN):
            paper = explored(place)[1]
            for at in paper:
                self.tells(False, place, {one: note for one, note in paper.items() if one != at})

    def test_a_greater_rank(self):
        for place in (PLAIN, CHAIN, TRIANGLE):
            paper = {at: (rank * 10, pair) for at, (rank, pair) in explored(place)[1].items()}
            top = max(rank for rank, pair in paper.values())
            for at, (rank, pair) in paper.items():
                if at != begun(place):
                    self.tells(False, place, {**paper, at: (top + 1, pair)})

    def test_the_same_rank(self):
        # One letter at a time: each coming is the pair's own.
        paper = explored(PLAIN)[1]
        self.assertEqual(len(paper), 3)
        for at, (rank, pair) in paper.items():
            self.assertLessEqual(len(comings(at)), 1)
            for coming in comings(at):
                after = come(PLAIN, at, coming)
                self.tells(False, PLAIN, {**paper, after: (rank, paper[after][1])})
                self.tells(False, PLAIN, {**paper, after: (rank, pair)})

    def leaves(self):
        """A town of two leaves at the goal, its state begun, and the pairs of it."""
        place = town("g", "abg", "ag bg", {}, {"a": [((), KEEP)], "b": [((), KEEP)]})
        return place, begun(place), ("g", "a"), ("g", "b")

    def test_the_same_rank_by_another_pair(self):
        place, start, to_a, to_b = self.leaves()
        a_came, b_came = come(place, start, to_a + (0,)), come(place, start, to_b + (0,))
        end = come(place, a_came, to_b + (0,))
        right = {start: (1, to_a), b_came: (1, to_a), a_came: (1, to_b), end: (0, None)}
        # By the pair's own coming from begun the rank stays.
        self.tells(False, place, right)
        right[start] = (2, to_a)
        self.tells(True, place, right)
        # b's coming may leave the rank as it is where the pair stays.
        right[b_came] = (2, to_a)
        self.tells(True, place, right)
        self.tells(False, place, {**right, start: (2, to_b)})
        self.tells(False, place, {**right, start: (1, to_a)})
        self.tells(True, place, {**right, start: (3, to_b)})

    def test_the_same_rank_with_another_pair(self):
        # Where c's letter waits besides, b's coming leads to a state where both others wait.
        place = town("g", "abcg", "ag bg cg", {}, {house: [((), KEEP)] for house in "abc"})
        paper = {at: (len(comings(at)), comings(at)[0][:2] if comings(at) else None) for at in explored(place)[1]}
        self.tells(True, place, paper)
        start = begun(place)
        after = come(place, start, ("g", "b", 0))
        self.tells(True, place, {**paper, after: (3, ("g", "a"))})
        self.tells(False, place, {**paper, after: (3, ("g", "c"))})
        self.tells(True, place, {**paper, after: (2, ("g", "c"))})

    def test_the_pair_where_nothing_waits(self):
        paper = explored(CHAIN)[1]
        for at, (rank, pair) in paper.items():
            if comings(at):
                self.tells(False, CHAIN, {**paper, at: (rank, None)})
            else:
                for one, to, heard, waits in at:
                    self.tells(False, CHAIN, {**paper, at: (rank, (one, to))})

    def test_a_pair_that_has_nothing_waiting(self):
        paper = explored(CHAIN)[1]
        for at, (rank, pair) in paper.items():
            for one, to, heard, waits in at:
                if not waits:
                    self.tells(False, CHAIN, {**paper, at: (rank, (one, to))})
            for other in (("a", "g"), ("b", "b"), ("x", "y"), ("b",), ("g", "b", 0), ("", ""), ("g", "b", "a")):
                self.tells(False, CHAIN, {**paper, at: (rank, other)})

    def test_ranks_that_are_none(self):
        paper = explored(CHAIN)[1]
        for at, (rank, pair) in paper.items():
            for other in (-1, -10 ** 40, None, "1", b"1", (1,), [1], {}, Alike(), Sore()):
                self.tells(False, CHAIN, {**paper, at: (other, pair)})
        end = [at for at, (rank, pair) in paper.items() if rank == 0][0]
        last = [at for at, (rank, pair) in paper.items() if rank == 1][0]
        self.tells(False, CHAIN, {**paper, end: (False, None)})
        self.tells(False, CHAIN, {**paper, last: (True, paper[last][1])})
        self.tells(False, CHAIN, {at: (rank - 1, pair) for at, (rank, pair) in paper.items()})

    def test_odd_notes(self):
        paper = explored(CHAIN)[1]
        start = begun(CHAIN)
        rank, pair = paper[start]
        for odd in NEVER_RIGHT + (None, rank, [rank, pair], (rank,), (rank, pair, pair), (pair, rank)):
            self.tells(False, CHAIN, {**paper, start: odd})
            self.tells(False, CHAIN, {**paper, start: (rank, odd)})
            self.tells(False, CHAIN, {**paper, start: (rank, (odd, pair[1]))})
            self.tells(False, CHAIN, {**paper, start: (rank, (pair[0], odd))})
        self.tells(False, CHAIN, {**paper, start: (rank, list(pair))})

    def test_things_that_are_no_states(self):
        paper = explored(CHAIN)[1]
        end = [at for at, (rank, pair) in paper.items() if pair is None][0]
        self.assertEqual(end, state("ab abg", "ba bg", "bg bg", "gb g"))
        for other in (state("ab -", "ba -", "bg -", "gb -"), state("ab -", "ba bg", "bg bg", "gb -")):
            self.tells(True, CHAIN, {**paper, other: (0, None)})
        others = (
            end[:3], end[1:], end + end[:1], end[::-1], (), end[:1] * 4, (None,) * 4, ((),) * 4,
            state("ab abg", "ba abg", "bg bg", "gb g"), state("ab abg", "ba g", "bg bg", "gb g"),
            state("ab ag", "ba bg", "bg bg", "gb g"), state("ab abg", "ba b", "bg bg", "gb g"),
            state("ab bg", "ba bg", "bg bg", "gb g"), state("ab abg", "ba bg", "bg bg", "gb bg"),
            state("ab abg", "ba bg", "bg bg", "gb gg"), state("ab abg", "ag -", "bg bg", "gb g"),
            state("ab abg", "ba bg", "bg bg", "bg g"), state("ab abg", "ba bg", "bg bg", "gx g"),
            tuple(row[:3] for row in end), tuple(row[:3] + (None,) for row in end), tuple(row + ((),) for row in end),
        )
        for other in others:
            self.tells(False, CHAIN, {**paper, other: (0, None)})

    def test_offers_that_are_none(self):
        place = town("g", "abg", "ab ag bg", {"b": [((("from", "a"),), None)]})
        paper = explored(place, 5000, 2)[1]
        self.tells(True, place, paper, 2)
        start = begun(place)
        row = start[3]
        self.assertEqual(row, ("b", "g", None, ()))
        for heard, waits, right in (
            (("b", "g"), (), True), (("b", "a", "g"), (), False), (("a", "g"), (), False), ((), (), False),
        ):
            self.assertEqual(oracle.let_marks(place).get(heard) == () and heard[0] == "b", right)
            end = start[:3] + (("b", "g", heard, waits),) + tuple(one[:3] + ((),) for one in start[4:])
            self.tells(right, place, {**paper, end: (0, None)}, 2)
        for waits, right in (
            ((("b", "g"),), True), ((None,), True), ((None, None), True), ((("b", "g"), ("b", "g")), True),
            ((("b", "a", "g"),), False), ((("b", "g"), ("b", "a", "g")), False), ((None,) * 3, False),
            (((),), False), (("b", "g"), False), ([("b", "g")], False), (([],), False), (None, False),
        ):
            first = start[:3] + (("b", "g", None, waits),) + tuple(one[:3] + ((),) for one in start[4:])
            if not can_be_a_key(first):
                continue
            more = paper_of(place, list(paper) + [first], 2) if right else {**paper, first: (9, ("b", "g"))}
            self.tells(right, place, more, 2)

    def test_the_goals_own_way_whatever_it_likes(self):
        place = town("g", "ag", "ag", {"g": [((), None)]})
        self.tells(True, place, explored(place)[1])

    def test_odd_states(self):
        paper = explored(CHAIN)[1]
        for at in (begun(CHAIN), [at for at, (rank, pair) in paper.items() if pair is None][0]):
            for odd in spoilt(at):
                if can_be_a_key(odd):
                    self.tells(False, CHAIN, {**paper, odd: (0, None)})
                    self.tells(False, CHAIN, {**{one: paper[one] for one in paper if one != at}, odd: paper[at]})
        for odd in NEVER_RIGHT:
            if can_be_a_key(odd):
                self.tells(False, CHAIN, {**paper, odd: (0, None)})
        start = begun(CHAIN)
        less = {at: note for at, note in paper.items() if at != start}
        for odd in (Collides(start), ((Collides("a"),) + start[0][1:],) + start[1:], (Collides(start[0]),) + start[1:]):
            self.tells(False, CHAIN, {**less, odd: paper[start]})
            self.tells(False, CHAIN, {odd: paper[start], **less})

    def test_odd_things(self):
        paper = explored(CHAIN)[1]
        others = (None, list(paper.items()), tuple(paper.items()), set(paper), list(paper), begun(CHAIN), ("rests", paper),
                  explored(TIGHT, 5000)[1], nested(list, 60), [paper], (paper,))
        for odd in NEVER_RIGHT + others:
            self.tells(False, CHAIN, odd)
            self.tells(False, CHAIN, odd, 3)
            self.tells(False, town("g", "g"), odd)

    def test_of_another_town(self):
        self.tells(False, TRIANGLE, explored(CHAIN)[1])
        self.tells(False, CHAIN, explored(TRIANGLE)[1])

    def test_where_it_goes_round(self):
        for width in (2, 3):
            place = pairs_of_two(1)
            states = oracle.all_states(place, width, 5000)
            self.tells(False, place, {at: (5, comings(at)[0][:2] if comings(at) else None) for at in states}, width)

    def test_of_more_than_400_let_ways(self):
        self.tells(False, JUST_401, {})
        self.tells(False, JUST_401, {begun(JUST_401): (1, ("g", "a"))})

    def test_of_papers_of_chance(self):
        chance = random.Random(71)
        told = {True: 0, False: 0}
        for turn in range(60):
            place = oracle.some_town(chance, "abc", 3, 2)
            width = turn % 3 + 1
            word, paper = explored(place, 300, width)
            if word != "rests":
                continue
            self.tells(True, place, paper, width)
            for _ in range(12):
                other = dict(paper)
                for _ in range(chance.choice((1, 1, 2, 4))):
                    at = chance.choice(list(paper))
                    rank, pair = other[at]
                    pairs = [one[:2] for one in comings(at)] + [None]
                    other[at] = chance.choice(((rank + 1, pair), (rank - 1, pair), (rank, chance.choice(pairs)),
                                               (rank + 2, chance.choice(pairs))))
                right = oracle.shows_rests(place, other, width)
                self.tells(right, place, other, width)
                told[right] += 1
        self.assertGreater(min(told.values()), 40)

    def test_towns_with_ranks(self):
        chance = random.Random(72)
        many = 0
        for turn in range(90):
            place = oracle.some_town(chance, "abcd" if turn % 3 else "abc", 4, 6)
            width = turn % 3 + 1
            word, paper = explored(place, 400, width)
            if ranks(place) is not None and word != "open":
                self.assertEqual(word, "rests")
                self.tells(True, place, paper, width)
                many += 1
        self.assertGreater(many, 20)


def walked(place, row, width):
    at = begun(place)
    for coming in row:
        at = come(place, at, coming, width)
    return at


class Rounds(unittest.TestCase):
    def tells(self, answer, place, thing, *width):
        self.assertIs(shows_round(place, thing, *width), answer)

    def rounds(self):
        """Towns that go round, with a width and what explored tells."""
        for place, widths in ((TIGHT, (1, 2, 3)), (TWO_RESTS, (2, 3)), (pairs_of_two(2), (2, 3))):
            for width in widths:
                word, rows = explored(place, 5000, width)
                self.assertEqual(word, "round")
                yield place, width, rows

    def test_what_explored_tells(self):
        for place, width, rows in self.rounds():
            self.tells(True, place, rows, width)
            self.assertIs(shows_round(place, rows, width=width), True)
        self.tells(True, TIGHT, explored(TIGHT, 5000)[1])
        given = inspect.signature(shows_round).parameters
        self.assertEqual([(name, one.default) for name, one in given.items()][2:], [("width", 1)])

    def test_again_twice_and_turned(self):
        for place, width, (ahead, again) in self.rounds():
            self.tells(True, place, (ahead, again * 3), width)
            self.tells(True, place, (ahead + again, again), width)
            for at in range(1, len(again)):
                start = walked(place, ahead + again[:at], width)
                right = {one[:2] for one in comings(start)} <= {one[:2] for one in again}
                self.tells(right, place, (ahead + again[:at], again[at:] + again[:at]), width)

    def test_again_that_is_empty(self):
        for place, width, (ahead, again) in self.rounds():
            self.tells(False, place, (ahead, ()), width)
            self.tells(False, place, (ahead + again, ()), width)
        for place in (CHAIN, town("g", "g")):
            self.tells(False, place, ((), ()))

    def test_two_states(self):
        for place, width, (ahead, again) in self.rounds():
            for at in range(1, len(again)):
                if walked(place, ahead + again[:at], width) != walked(place, ahead, width):
                    self.tells(False, place, (ahead, again[:at]), width)
            self.tells(False, place, ((), ahead + again) if ahead else ((), ()), width)

    def test_a_coming_that_can_not_be(self):
        for place, width, (ahead, again) in self.rounds():
            for at in range(len(again)):
                for odd in (again[at][:2] + (width,), again[at][:2] + (10 ** 40,), ("x", "y", 0), again[at][1::-1] + (3,)):
                    self.tells(False, place, (ahead, again[:at] + (odd,) + again[at + 1:]), width)
            for at in range(len(ahead)):
                self.tells(False, place, (ahead[:at] + (ahead[at][:2] + (9,),) + ahead[at + 1:], again), width)
            # A coming more, of what has nothing waiting: the state is the same.
            self.tells(False, place, (ahead + (("a", "a", 0),), again), width)

    def test_a_pair_that_does_not_come(self):
        # d hears of the goal, and is not told so: the round of a and b alone is not fair.
        likings = {"a": via("b"), "b": via("a")}
        hands = {house: [((("not", ("to", mate)),), KEEP), ((("not", ("from", "g")),), KEEP)]
                 for house, mate in ("ab", "ba")}
        two = town("g", "abg", "ab ag bg", likings, hands)
        three = town("g", "abdg", "ab ag bg dg", likings, {**hands, "d": [((), KEEP)]})
        for width in (2, 3):
            ahead, again = explored(two, 5000, width)[1]
            self.tells(True, two, (ahead, again), width)
            self.tells(False, three, (ahead, again), width)
            self.tells(True, three, ((("g", "d", 0),) + ahead, again), width)
            self.tells(True, three, (ahead + (("g", "d", 0),), again), width)
            self.tells(False, three, (ahead, again + (("g", "d", 0),)), width)

    def test_the_width(self):
        for place, width, rows in self.rounds():
            for other in (1, 2, 3):
                self.tells(oracle.shows_round(place, rows, other), place, rows, other)
        self.tells(False, TWO_RESTS, explored(TWO_RESTS, 5000, 2)[1])
        self.tells(False, TWO_RESTS, explored(TWO_RESTS, 5000, 2)[1], 1)

    def test_lists_for_tuples(self):
        ahead, again = explored(TIGHT, 5000)[1]
        self.assertNotEqual(ahead, ())
        for thing in ([ahead, again], (list(ahead), again), (ahead, list(again)), (tuple(map(list, ahead)), again),
                      (ahead, tuple(map(list, again))), {0: ahead, 1: again}, (ahead, again, ()), (ahead,), (again,),
                      ahead + again, ("round", (ahead, again)), (again, ahead)):
            self.tells(False, TIGHT, thing)

    def test_odd_comings(self):
        for width in (1, 2):
            ahead, again = explored(TIGHT if width == 1 else TWO_RESTS, 5000, width)[1]
            place = TIGHT if width == 1 else TWO_RESTS
            for row in (0, 1):
                for at in range(len((ahead, again)[row])):
                    one, to, k = (ahead, again)[row][at]
                    for odd in ((one, to, bool(k)), (one, to, -1), (one, to, k - width), (one, to, None), (one, to, str(k)),
                                (one, to), (one, to, k, k), [one, to, k], (to, one), (one, to, (k,)), None, one):
                        rows = [list(ahead), list(again)]
                        rows[row][at] = odd
                        self.tells(False, place, tuple(map(tuple, rows)), width)

    def test_spoilt_ones(self):
        rows = explored(TWO_RESTS, 5000, 2)[1]
        self.tells(True, TWO_RESTS, rows, 2)
        for thing in spoilt(rows):
            self.tells(False, TWO_RESTS, thing, 2)

    def test_odd_things(self):
        for odd in NEVER_RIGHT + (None, nested(list, 60), ((), ()), ((), None), (None, ())):
            self.tells(False, TIGHT, odd)
            self.tells(False, CHAIN, odd, 3)
            self.tells(False, town("g", "g"), odd)
            self.tells(False, TIGHT, (odd, ()))
            self.tells(False, TIGHT, ((), odd))

    def test_where_all_rests(self):
        for place in (CHAIN, TRIANGLE, town("g", "g")):
            self.tells(False, place, explored(TIGHT, 5000)[1])
            self.tells(False, place, ((), tuple(comings(begun(place)))))

    def test_of_rows_of_chance(self):
        chance = random.Random(73)
        told = {True: 0, False: 0}
        for turn in range(60):
            place = oracle.unruly_town(chance, "abc")
            width = turn % 3 + 1
            word, rows = explored(place, 900, width)
            if word != "round":
                continue
            self.tells(True, place, rows, width)
            for _ in range(30):
                ahead, again = rows
                cut = chance.randrange(len(again) + 1)
                at = chance.randrange(len(again))
                guess = chance.choice((
                    (ahead + again[:cut], again[cut:] + again[:cut]), (ahead, again[:at] + again[at + 1:]),
                    (ahead[:-1], again), (ahead, again[:cut] * 2), (ahead, again[:at] + again[at:at + 1] + again[at:]),
                    (ahead + again[:cut], again), (ahead, again + again),
                ))
                right = oracle.shows_round(place, guess, width)
                self.tells(right, place, guess, width)
                told[right] += 1
        self.assertGreater(min(told.values()), 40)


class Either(unittest.TestCase):
    def test_one_of_the_two_is_shown(self):
        chance = random.Random(74)
        words = {"rests": 0, "round": 0, "open": 0}
        for turn in range(120):
            place = oracle.some_town(chance, "abc", 4, 2) if turn % 2 else oracle.unruly_town(chance, "abc")
            width = turn % 3 + 1
            word, paper = explored(place, 700 if turn % 4 < 2 else 40, width)
            words[word] += 1
            self.assertIs(shows_rests(place, paper, width), word == "rests")
            self.assertIs(shows_round(place, paper, width), word == "round")
        self.assertGreater(min(words.values()), 4)

    def test_of_a_larger_town(self):
        place = town("g", "abcdg", all_ties("abcdg"), {}, {house: [((), KEEP)] for house in "abcd"})
        word, paper = explored(place, 5000, 3)
        self.assertEqual(word, "rests")
        self.assertIs(shows_rests(place, paper, 3), True)


if __name__ == "__main__":
    unittest.main()
