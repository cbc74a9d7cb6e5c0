import random
import unittest

import oracle
from restways.runs import Run
from restways.states import begun, choice_of, come, comings
from samples import JUST_401, LONG_NAMES, NO_REST, TWO_RESTS, all_ties, town, via

KEEP = ("keep",)
TRIANGLE = town("g", "abg", "ab ag bg")
CHAIN = town("g", "abg", "ab bg")


def state(*rows):
    """A state of houses of one letter each: state("ab bg -", ..): from a to b, heard, waits."""
    def way(word):
        return None if word == "-" else tuple(word)
    parts = [row.split() for row in rows]
    return tuple((pair[0], pair[1], way(heard), tuple(way(word) for word in waits)) for pair, heard, *waits in parts)


class Begun(unittest.TestCase):
    def test_one_house(self):
        self.assertEqual(begun(town("g", "g")), ())
        self.assertEqual(begun(town("g", "abg")), ())

    def test_a_triangle(self):
        self.assertEqual(begun(TRIANGLE), state("ab -", "ag -", "ba -", "bg -", "ga - g", "gb - g"))

    def test_rising_rows_with_a_goal_amid_them(self):
        self.assertEqual(begun(town("b", "abc", "ab bc")), state("ab -", "ba - b", "bc - b", "cb -"))

    def test_where_it_is_handed(self):
        place = town("g", "abcg", "ab ag cg", {"c": [((), None)]}, {"g": [((("to", "a"),), KEEP), ((), ("put", "m"))]})
        self.assertEqual(begun(place), state("ab -", "ag -", "ba -", "cg -", "ga -", "gc - g"))

    def test_the_goals_likings_count_for_nothing(self):
        self.assertEqual(begun(town("g", "ag", "ag", {"g": [((), None)]})), state("ag -", "ga - g"))


class Comings(unittest.TestCase):
    def test_of_begun(self):
        self.assertEqual(comings(begun(TRIANGLE)), [("g", "a", 0), ("g", "b", 0)])
        self.assertEqual(comings(()), [])

    def test_each_place_rising(self):
        at = state("ab - ag - ag", "ba bg", "bg - -", "ga -", "gb - g g")
        self.assertEqual(comings(at), [
            ("a", "b", 0), ("a", "b", 1), ("a", "b", 2), ("b", "g", 0), ("g", "b", 0), ("g", "b", 1)])

    def test_new_each_time(self):
        at = begun(TRIANGLE)
        comings(at).clear()
        self.assertEqual(len(comings(at)), 2)


class Come(unittest.TestCase):
    def tells(self, place, before, coming, behind, *width):
        self.assertEqual(come(place, before, tuple(coming[:2]) + (int(coming[2]),), *width), behind)

    def test_the_first(self):
        self.tells(TRIANGLE, begun(TRIANGLE), "ga0", state("ab - ag", "ag - ag", "ba -", "bg -", "ga g", "gb - g"))

    def test_each_place_of_the_waits(self):
        place = town("g", "abcg", all_ties("abcg"), {"a": [((), None)]})
        rows = ("ac -", "ag -", "ba -{}", "bc -", "bg -", "ca -", "cb -", "cg -", "ga -", "gb -", "gc -")
        before = state("ab -", *[row.format(" bg - bcg") for row in rows])
        for k, behind in enumerate(("ba bg - bcg", "ba - bcg", "ba bcg")):
            after = state("ab -", "ac -", "ag -", behind, *rows[3:])
            self.tells(place, before, f"ba{k}", after, 3)

    def test_those_ahead_wait_no_more(self):
        before = state("ab -", "ba - bg - bg", "bg -", "gb g")
        self.tells(CHAIN, before, "ba1", state("ab -", "ba - bg", "bg -", "gb g"), 3)
        self.tells(CHAIN, before, "ba2", state("ab - abg", "ba bg", "bg -", "gb g"), 3)

    def test_what_is_offered_already(self):
        # b goes by bg as before: nobody is told.
        before = state("ab - abg", "ba bg", "bg bg", "gb g g")
        self.tells(CHAIN, before, "gb0", state("ab - abg", "ba bg", "bg bg", "gb g"), 3)
        # What waits last counts, not what was heard.
        before = state("ab -", "ba - bg", "bg - bg", "gb - g")
        self.tells(CHAIN, before, "gb0", state("ab -", "ba - bg", "bg - bg", "gb g"))
        before = state("ab -", "ba bg -", "bg - bg", "gb - g")
        self.tells(CHAIN, before, "gb0", state("ab -", "ba bg - bg", "bg - bg", "gb g"), 2)
        before = state("ab -", "ba bg", "bg - bg", "gb - g")
        self.tells(CHAIN, before, "gb0", state("ab -", "ba bg", "bg - bg", "gb g"), 2)

    def test_none_is_told_where_a_way_goes_away(self):
        before = state("ab abg", "ba bg", "bg bg", "gb g -")
        self.tells(CHAIN, before, "gb0", state("ab abg", "ba bg -", "bg bg -", "gb -"))
        before = state("ab abg", "ba -", "bg -", "gb - -")
        self.tells(CHAIN, before, "gb0", state("ab abg", "ba -", "bg -", "gb -"))

    def test_widths(self):
        before = state("ab -", "ba bg - bg", "bg bg - bg", "gb g -")
        self.tells(CHAIN, before, "gb0", state("ab -", "ba bg - bg -", "bg bg - bg -", "gb -"), 3)
        self.tells(CHAIN, before, "gb0", state("ab -", "ba bg bg -", "bg bg bg -", "gb -"), 2)
        before = state("ab -", "ba bg - bg -", "bg bg", "gb - g")
        self.tells(CHAIN, before, "gb0", state("ab -", "ba bg bg - bg", "bg bg", "gb g"), 3)
        before = state("ab -", "ba - -", "bg -", "gb - g")
        self.tells(CHAIN, before, "gb0", state("ab -", "ba - bg", "bg - bg", "gb g"))
        self.tells(CHAIN, before, "gb0", state("ab -", "ba - bg", "bg - bg", "gb g"), 1)
        self.tells(CHAIN, before, "gb0", state("ab -", "ba - - bg", "bg - bg", "gb g"), 2)

    def test_the_width_by_its_name(self):
        before = state("ab -", "ba - -", "bg -", "gb - g")
        self.assertEqual(come(CHAIN, before, ("g", "b", 0), width=2),
                         state("ab -", "ba - - bg", "bg - bg", "gb g"))

    def test_the_goal_tells_nothing_new(self):
        before = state("ab -", "ba bg", "bg - bg", "gb g")
        self.tells(CHAIN, before, "bg0", state("ab -", "ba bg", "bg bg", "gb g"))

    def test_the_goal_offers_its_own_way_whatever_it_hears(self):
        # A state that can't come of begun: nothing waits from g, and b heard none of it.
        before = state("ab -", "ba bg", "bg - bg", "gb -")
        self.tells(CHAIN, before, "bg0", state("ab -", "ba bg", "bg bg", "gb - g"))

    def test_a_way_that_is_kept_is_offered_as_none(self):
        place = town("g", "abcg", "ab bc bg cg", {"b": [((("from", "c"),), 5)]}, {"b": [((("to", "a"), ("from", "c")), KEEP)]})
        before = state("ab -", "ba bg", "bc bg", "bg bg", "cb - cg", "cg cg", "gb g", "gc g")
        after = state("ab -", "ba bg -", "bc bg bcg", "bg bg bcg", "cb cg", "cg cg", "gb g", "gc g")
        self.tells(place, before, "cb0", after)

    def test_what_is_not_let_is_passed_over(self):
        # a's own way in it; one of worth None; one that wasn't handed.
        before = state("ab ag", "ag ag", "ba - bag", "bg -", "ga g", "gb -")
        self.tells(TRIANGLE, before, "ba0", state("ab ag", "ag ag", "ba bag", "bg -", "ga g", "gb -"))
        never = town("g", "abg", "ab ag bg", {"a": [((("from", "b"),), None)]})
        before = state("ab -", "ag -", "ba - bg", "bg bg", "ga -", "gb g")
        self.tells(never, before, "ba0", state("ab -", "ag -", "ba bg", "bg bg", "ga -", "gb g"))
        kept = town("g", "abg", "ab ag bg", {}, {"b": [((("to", "a"),), KEEP)]})
        self.tells(kept, before, "ba0", state("ab -", "ag -", "ba bg", "bg bg", "ga -", "gb g"))

    def test_with_the_marks_of_the_way(self):
        place = town("g", "abg", "ab ag bg", {"a": [((("mark", "m"),), 5)]}, {"b": [((), ("put", "m"))]})
        before = state("ab ag", "ag ag", "ba - bg", "bg bg", "ga g", "gb g")
        self.tells(place, before, "ba0", state("ab ag abg", "ag ag abg", "ba bg", "bg bg", "ga g", "gb g"))

    def test_hands_go_by_the_marks_too(self):
        hands = {"b": [((("to", "a"),), ("put", "m"))], "a": [((("mark", "m"), ("to", "b")), KEEP)]}
        place = town("g", "abg", "ab ag bg", {}, hands)
        before = state("ab -", "ag -", "ba - bg", "bg bg", "ga -", "gb g")
        self.tells(place, before, "ba0", state("ab -", "ag - abg", "ba bg", "bg bg", "ga -", "gb g"))

    def test_of_more_than_400_let_ways(self):
        at = begun(JUST_401)
        after = come(JUST_401, at, ("g", "a", 0))
        self.assertEqual(choice_of(JUST_401, after)["a"], ("a", "g"))


class ChoiceOf(unittest.TestCase):
    def test_of_begun(self):
        self.assertEqual(choice_of(TRIANGLE, begun(TRIANGLE)), {"a": None, "b": None, "g": ("g",)})
        self.assertEqual(choice_of(town("g", "g"), ()), {"g": ("g",)})

    def test_the_most_liked_of_what_was_heard(self):
        at = state("ab ag", "ag -", "ba bg - bg", "bg -", "ga -", "gb - g")
        self.assertEqual(choice_of(TRIANGLE, at), {"a": tuple("abg"), "b": tuple("bag"), "g": ("g",)})
        at = state("ab ag", "ag -", "ba bg", "bg -", "ga g", "gb g")
        self.assertEqual(choice_of(TRIANGLE, at), {"a": tuple("ag"), "b": tuple("bg"), "g": ("g",)})
        self.assertEqual(choice_of(TWO_RESTS, at), {"a": tuple("abg"), "b": tuple("bag"), "g": ("g",)})

    def test_passed_over(self):
        at = state("ab abg", "ag abg", "ba bag", "bg bag", "ga -", "gb -")
        self.assertEqual(choice_of(TRIANGLE, at), {"a": None, "b": None, "g": ("g",)})

    def test_new_each_time(self):
        choice_of(TRIANGLE, begun(TRIANGLE)).clear()
        self.assertEqual(len(choice_of(TRIANGLE, begun(TRIANGLE))), 3)


class AgainstThePlainReckoning(unittest.TestCase):
    def test_walks_of_chance(self):
        chance = random.Random(51)
        for turn in range(60):
            place = (LONG_NAMES, oracle.unruly_town(chance, "abcd"), oracle.some_town(chance, "abcd", 3, 2))[turn % 3]
            marks = oracle.let_marks(place)
            width = chance.randint(1, 3)
            at = begun(place)
            self.assertEqual(at, oracle.state_begun(place))
            for _ in range(40):
                self.assertEqual(comings(at), oracle.state_comings(at))
                self.assertEqual(choice_of(place, at), oracle.state_choice(place, at, marks))
                if not comings(at):
                    break
                coming = chance.choice(comings(at))
                after = come(place, at, coming, width)
                self.assertEqual(after, oracle.state_come(place, at, coming, width, marks))
                at = after

    def test_states_of_chance(self):
        chance = random.Random(52)
        for _ in range(60):
            place = oracle.some_town(chance, "abcd", 3, 2)
            marks = oracle.let_marks(place)
            width = chance.randint(1, 3)
            for _ in range(20):
                at = []
                for a, b, heard, waits in begun(place):
                    ways = [None] + [way for way in marks if way[0] == a]
                    waits = tuple(chance.choice(ways) for _ in range(chance.randint(0, width)))
                    at.append((a, b, chance.choice(ways), waits))
                at = tuple(at)
                self.assertEqual(choice_of(place, at), oracle.state_choice(place, at, marks))
                for coming in comings(at):
                    told = come(place, at, coming, width)
                    self.assertEqual(told, oracle.state_come(place, at, coming, width, marks), (place, at, coming))


class BesideARun(unittest.TestCase):
    """A run of which only so many newest letters of each two houses are left on the road goes as the states do."""

    def newest(self, run, width):
        """Loses all letters but the newest ones of each two houses."""
        k = 0
        while k < len(run.road()):
            one = run.road()[k]
            if sum(other[:2] == one[:2] and other[2] > one[2] for other in run.road()) >= width:
                run.lose(k)
            else:
                k += 1

    def waits(self, run):
        found = {}
        for one, to, nr, way, marks in sorted(run.road(), key=lambda letter: letter[2]):
            found.setdefault((one, to), []).append((nr, way))
        return found

    def test_step_by_step(self):
        chance = random.Random(53)
        for turn in range(45):
            place = (NO_REST, TWO_RESTS, oracle.some_town(chance, "abcd", 3, 2), oracle.unruly_town(chance, "abcd"),
                     town("g", "abcg", all_ties("abcg"), {"a": via("c"), "b": via("a")}))[turn % 5]
            width = turn % 3 + 1
            run, at = Run(place), begun(place)
            for _ in range(50):
                waits = self.waits(run)
                self.assertEqual({row[:2]: tuple(way for nr, way in waits.get(row[:2], ())) for row in at},
                                 {row[:2]: row[3] for row in at})
                self.assertEqual(run.choice(), choice_of(place, at))
                if not comings(at):
                    break
                one, to, k = chance.choice(comings(at))
                nr = waits[(one, to)][k][0]
                run.come([letter[:3] for letter in run.road()].index((one, to, nr)))
                for old in [old for old, way in waits[(one, to)] if old < nr]:
                    run.lose([letter[:3] for letter in run.road()].index((one, to, old)))
                self.newest(run, width)
                at = come(place, at, (one, to, k), width)


if __name__ == "__main__":
    unittest.main()
