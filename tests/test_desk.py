import random
import unittest

import oracle
from restways.counts import mosts
from restways.desk import Desk
from restways.errors import HasRing, Needed, NoDeed, NoLetter, NoRow, NoText, RestError, TooMany
from restways.exploring import explored
from restways.lets import lets
from restways.reading import read_town
from restways.ringpapers import shows_ring
from restways.rings import ranks, rest, ring
from restways.roundpapers import shows_round
from restways.runs import Run
from restways.showing import show_town
from samples import JUST_401, LONG_NAMES, NEVER_RIGHT, NO_REST, TWO_RESTS, nested, town
from test_exploring import TIGHT
from test_runs import CHAIN, DETOUR, TRIANGLE, some_deed

KEEP = ("keep",)
ASKED = ("lets a", "lets b", "lets g", "ring", "rest", "most", "road", "go", "changes", "still", "explore 500 1",
         "explore 500 2")


def desk(place):
    return Desk(show_town(place))


def way_of(text):
    return None if text == "-" else tuple(text.split("."))


def answer(told, line):
    """What a desk answers to a line, or the name of the refusal."""
    try:
        return told.say(line)
    except RestError as error:
        return type(error).__name__


def seen(told):
    """All that a desk answers."""
    return [answer(told, line) for line in ASKED]


class Base(unittest.TestCase):
    def says(self, told, **answers):
        for line, text in answers.items():
            self.assertEqual(told.say(line), text, line)
            self.assertIs(type(told.say(line)), str)

    def refused(self, kind, told, line):
        before = seen(told)
        with self.assertRaises(kind) as caught:
            told.say(line)
        self.assertIs(type(caught.exception), kind)
        self.assertIsInstance(caught.exception, RestError)
        self.assertEqual(seen(told), before)
        return caught.exception


class Town(Base):
    def test_lets(self):
        place = town("g", "abg", "ab ag bg", {"a": [((("from", "b"),), 5)], "b": [((("from", "a"),), None)]})
        told = desk(place)
        self.assertEqual(told.say("lets a"), "a.b.g a.g")
        self.assertEqual(told.say("lets b"), "b.g")
        self.assertEqual(told.say("lets g"), "g")
        self.assertEqual(desk(town("g", "ag")).say("lets a"), "-")
        self.assertEqual(desk(LONG_NAMES).say("lets mill"), "mill.hut.home mill.hut.hill.home")

    def test_lets_too_many(self):
        told = Desk(show_town(JUST_401))
        for line in ("lets a", "lets g", "ring", "rest", "most"):
            with self.assertRaises(TooMany):
                told.say(line)
        self.assertEqual(told.say("still"), "no")

    def test_ring(self):
        self.says(desk(TRIANGLE), ring="-")
        for place in (TWO_RESTS, NO_REST):
            told = desk(place).say("ring")
            self.assertEqual([way_of(word) for word in told.split(" ")], ring(place))

    def test_rest(self):
        self.says(desk(TRIANGLE), rest="a.g b.g g")
        self.says(desk(town("b", "abc", "ab")), rest="a.b b -")
        self.says(desk(town("g", "g")), rest="g")
        error = self.refused(HasRing, desk(TWO_RESTS), "rest")
        self.assertIs(shows_ring(TWO_RESTS, error.ring), True)

    def test_most(self):
        self.says(desk(TRIANGLE), most="2 2 1")
        self.says(desk(town("b", "abc", "ab")), most="1 1 0")
        self.refused(HasRing, desk(NO_REST), "most")

    def test_explore(self):
        told = desk(TRIANGLE)
        many = len(explored(TRIANGLE)[1])
        self.assertEqual(told.say(f"explore {many} 1"), "rests")
        self.assertEqual(told.say(f"explore {many - 1} 1"), "open")
        self.assertEqual(told.say("explore 1 1"), "open")
        self.assertEqual(told.say("explore 999999 3"), "rests")
        self.assertEqual(desk(town("g", "g")).say("explore 1 3"), "rests")

    def test_explore_a_round(self):
        for place, width in ((TWO_RESTS, 2), (TWO_RESTS, 3), (TIGHT, 1), (TIGHT, 2)):
            words = desk(place).say(f"explore 5000 {width}").split(" ")
            self.assertEqual(words[0], "round")
            bar = words.index("|")
            comings = [word.replace(">", " ").replace(":", " ").split() for word in words]
            rows = [tuple((one, to, int(k)) for one, to, k in row) for row in (comings[1:bar], comings[bar + 1:])]
            self.assertEqual(("round", tuple(rows)), explored(place, 5000, width))
            self.assertIs(shows_round(place, tuple(rows), width), True)
        self.assertEqual(desk(TWO_RESTS).say("explore 5000 1"), "rests")

    def test_whatever_is_on_the_road(self):
        told = desk(DETOUR)
        before = [told.say(line) for line in ("explore 5000 1", "ring", "rest", "most", "lets a")]
        for line in ("come 0", "copy 0", "come 1", "come 0"):
            told.say(line)
            self.assertEqual([told.say(line) for line in ("explore 5000 1", "ring", "rest", "most", "lets a")], before)

    def test_as_it_is(self):
        told = desk(TRIANGLE)
        self.assertEqual(told.say("lets a"), "a.g a.b.g")
        told.say("like a 5 if from b")
        self.assertEqual(told.say("lets a"), "a.b.g a.g")
        told.say("untie a b")
        self.says(told, rest="a.g b.g g", most="1 1 1", ring="-")
        self.assertEqual(told.say("lets a"), "a.g")


class Going(Base):
    def test_a_run(self):
        told = desk(TRIANGLE)
        self.says(told, road="g a 1 g; g b 1 g", go="- - g", changes="0 0 1", still="no")
        self.assertEqual(told.say("come 1"), "ok")
        self.says(told, road="g a 1 g; b a 1 b.g; b g 1 b.g", go="- b.g g", changes="0 1 1", still="no")
        self.assertEqual(told.say("copy 0"), "ok")
        self.says(told, road="g a 1 g; b a 1 b.g; b g 1 b.g; a b 1 a.g; a g 1 a.g", go="a.g b.g g")
        self.assertEqual(told.say("lose 0"), "ok")
        for _ in range(4):
            self.assertEqual(told.say("come 0"), "ok")
        self.says(told, road="-", go="a.g b.g g", changes="1 1 1", still="yes")

    def test_one_house(self):
        self.says(desk(town("g", "g")), road="-", go="g", changes="1", still="yes")

    def test_none_on_the_road(self):
        told = desk(TRIANGLE)
        told.say("come 0")
        told.say("hand a keep if to b")
        self.assertEqual(told.say("road"), "g b 1 g; a b 1 a.g; a g 1 a.g; a b 2 -")

    def test_still_with_letters_on_the_road(self):
        told = desk(town("g", "ag", "ag"))
        told.say("copy 0")
        told.say("copy 1")
        self.says(told, road="g a 1 g; a g 1 a.g", still="yes")

    def test_refusals(self):
        told = desk(TRIANGLE)
        for word in ("come", "copy", "lose"):
            for k in (2, 3, 10, 999999):
                self.refused(NoLetter, told, f"{word} {k}")
        self.refused(Needed, told, "lose 0")
        self.refused(Needed, told, "lose 1")

    def test_long_names(self):
        told = desk(LONG_NAMES)
        self.says(told, road="home hill 1 home; home hut 1 home", go="- home - -", changes="0 1 0 0")
        told.say("come 1")
        self.assertEqual(told.say("road"), "home hill 1 home; hut hill 1 hut.home; hut home 1 hut.home; hut mill 1 hut.home")


class Changes(Base):
    def test_tie_and_untie(self):
        told = desk(CHAIN)
        for line, ties in (("tie a g", "ab ag bg"), ("untie b a", "ag bg"), ("tie b a", "ab ag bg"), ("untie a b", "ag bg")):
            self.assertEqual(told.say(line), "ok")
            self.assertEqual(told.run.town(), town("g", "abg", ties))
        self.assertEqual(told.say("road"), "g b 1 g; g a 1 g")

    def test_ties_refused(self):
        told = desk(CHAIN)
        for line in ("tie a b", "tie b a", "tie a a", "untie a g", "untie g a", "untie a a"):
            self.refused(NoDeed, told, line)
        for line in ("tie a c", "tie c a", "untie a c", "tie c c", "untie c d"):
            self.refused(NoRow, told, line)

    def test_a_liking_ahead_of_the_others(self):
        place = town("g", "abg", "ab ag bg", {"a": [((("from", "g"),), 3)], "b": [((), 1)]})
        told = desk(place)
        self.assertEqual(told.say("like a 7 if from b and not long 5"), "ok")
        self.assertEqual(told.say("like a never if mark m"), "ok")
        self.assertEqual(told.run.town()[3], (
            (((("mark", "m"),), None), ((("from", "b"), ("not", ("long", 5))), 7), ((("from", "g"),), 3)),
            (((), 1),), ()))
        self.assertEqual(told.say("like g -999"), "ok")
        self.assertEqual(told.run.town()[3][2], (((), -999),))

    def test_a_hand_ahead_of_the_others(self):
        told = desk(town("g", "abg", "ab ag bg", {}, {"a": [((), KEEP)]}))
        for line in ("hand a put m if to b", "hand b strike m", "hand a keep if by zz and long 99"):
            self.assertEqual(told.say(line), "ok")
        self.assertEqual(told.run.town()[4], (
            (((("by", "zz"), ("long", 99)), KEEP), ((("to", "b"),), ("put", "m")), ((), KEEP)),
            (((), ("strike", "m")),), ()))

    def test_the_run_goes_on_by_them(self):
        told = desk(TRIANGLE)
        while told.say("road") != "-":
            told.say("come 0")
        self.assertEqual(told.say("like a 5 if from b"), "ok")
        self.says(told, go="a.b.g b.g g", changes="2 1 1", road="a b 2 a.b.g; a g 2 a.b.g", still="no")

    def test_so_written_but_no_rule(self):
        told = desk(TRIANGLE)
        five = " and ".join(["by a"] * 5)
        for line in ("like a 5 if to b", "like a 5 if not to b", "like a 5 if long 100", "hand a keep if not long 100",
                     "like a never if by b and long 999", f"like a 5 if {five}", f"hand a put m if {five}"):
            self.refused(NoDeed, told, line)
        self.assertEqual(told.say("like a 5 if long 99"), "ok")
        self.assertEqual(told.say("hand a keep if to zz"), "ok")
        self.assertEqual(told.say("like a 5 if " + " and ".join(["by a"] * 4)), "ok")

    def test_the_ninety_first(self):
        for line in ("like a 5", "hand a put m"):
            told = desk(CHAIN)
            for _ in range(90):
                self.assertEqual(told.say(line), "ok")
            self.refused(NoDeed, told, line)
            self.assertEqual(told.say(line.replace(" a ", " b ")), "ok")

    def test_a_house_that_is_not_there_goes_first(self):
        told = desk(TRIANGLE)
        for line in ("like c 5", "hand c keep", "like c 5 if to b", "like c 5 if long 100", "hand c put m if to a",
                     "lets c", "lets gg", "tie c c", "untie a c"):
            self.refused(NoRow, told, line)


class NoSuchRow(Base):
    def test_other_words(self):
        told = desk(TRIANGLE)
        for line in ("", " ", "-", "let a", "Lets a", "LETS a", "rings", "rests", "mosts", "roads", "goes", "change", "stills",
                     "goal g", "houses a b g", "tied a b", "likes a 5", "town", "if", "explored 5 1", "open", "ok", "yes",
                     "lets\ta", "ring\n", "\nring", "road\ngo", "ring.", "come", "lets", "tie", "untie", "like", "hand",
                     "explore"):
            self.refused(NoRow, told, line)

    def test_words_too_many(self):
        told = desk(TRIANGLE)
        for line in ASKED + ("come 0", "copy 0", "lose 0", "tie a b", "untie a b", "like a 5", "hand a keep"):
            for other in (line + " ", " " + line, line + " a", line + " 0", line + "  ", line.replace(" ", "  "),
                          line + "\n", line.upper(), line + " -"):
                if other != line:
                    self.refused(NoRow, told, other)

    def test_words_too_few(self):
        told = desk(TRIANGLE)
        for line in ("lets ", "come ", "tie a", "tie a ", "untie", "untie a", "like a", "like a ", "hand a", "hand a put",
                     "explore 5", "explore 5 ", "explore", "explore  1"):
            self.refused(NoRow, told, line)

    def test_places(self):
        told = desk(TRIANGLE)
        for k in ("00", "01", "-0", "-1", "+1", "+0", "1000000", "0000000", "1.", "0x0", "a", "one", "1_0", "1e0", "", "-"):
            for word in ("come", "copy", "lose"):
                self.refused(NoRow, told, f"{word} {k}")

    def test_explore(self):
        told = desk(TRIANGLE)
        for line in ("explore 0 1", "explore 00 1", "explore 01 1", "explore -1 1", "explore +5 1", "explore 1000000 1",
                     "explore a 1", "explore 5 0", "explore 5 4", "explore 5 10", "explore 5 01", "explore 5 -1",
                     "explore 5 a", "explore 5 1 1", "explore 5 1.", "explore 5 +1", "explore 5 11"):
            self.refused(NoRow, told, line)

    def test_rules_that_are_not_so_written(self):
        told = desk(TRIANGLE)
        for line in ("like a 05", "like a 1000", "like a -0", "like a +5", "like a five", "like A 5", "like a 5 if",
                     "like a 5 if by", "like a 5 if by b and", "like a 5 by b", "like a 5 if long 1000", "like a keep",
                     "like a 5 if not not by b", "hand a", "hand a 5", "hand a never", "hand a keep m", "hand a put if by b",
                     "hand a put never", "hand a strike m n", "hand if keep", "like never 5", "hand a keep if to",
                     "like a 5  if by b", "hand a keep if long 05", "tie A b", "tie a if", "untie never a"):
            self.refused(NoRow, told, line)

    def test_of_anything(self):
        told = desk(TRIANGLE)
        for odd in NEVER_RIGHT + (None, 0, True, b"ring", ["ring"], ("ring",), {"ring": 1}, nested(list, 60)):
            self.refused(NoRow, told, odd)


class Texts(Base):
    def test_refused_as_read_town_is(self):
        for text in (None, 5, b"goal g", "", "goal g", "goal g\n", "goal g\nhouses a", "goal g\nhouses g\nring",
                     "goal g\nhouses g a", "goal g\nhouses g\n", ["goal g", "houses g"], "goal g\nhouses a g\nlike b 5"):
            rows = []
            for reads in (read_town, Desk):
                with self.assertRaises(NoText) as caught:
                    reads(text)
                rows.append(caught.exception.row)
            self.assertEqual(rows[0], rows[1])

    def test_two_have_nothing_in_common(self):
        one, other = desk(TRIANGLE), desk(TRIANGLE)
        before = seen(other)
        for line in ("come 0", "like a 5 if from b", "hand b put m", "untie a g", "come 0"):
            one.say(line)
        self.assertEqual(seen(other), before)
        self.assertEqual(seen(desk(TRIANGLE)), before)


def show(way):
    return "-" if way is None else ".".join(way)


class AgainstARun(unittest.TestCase):
    def plain_answers(self, run):
        """What a desk has to answer of a run."""
        place = run.town()
        found = {f"lets {house}": " ".join(map(show, ways)) or "-" for house, ways in lets(place).items()}
        found["ring"] = " ".join(map(show, ring(place) or [])) or "-"
        with_ranks = ranks(place) is not None
        found["rest"] = " ".join(show(rest(place)[house]) for house in place[1]) if with_ranks else "HasRing"
        found["most"] = " ".join(str(mosts(place)[house]) for house in place[1]) if with_ranks else "HasRing"
        found["road"] = "; ".join(f"{one} {to} {nr} {show(way)}" for one, to, nr, way, marks in run.road()) or "-"
        found["go"] = " ".join(show(run.choice()[house]) for house in place[1])
        found["changes"] = " ".join(str(run.changes()[house]) for house in place[1])
        found["still"] = "yes" if run.is_still() else "no"
        word, rows = explored(place, 60, 2)
        if word == "round":
            word = " ".join(["round"] + ["%s>%s:%d" % one for one in rows[0]] + ["|"] + ["%s>%s:%d" % one for one in rows[1]])
        found["explore 60 2"] = word
        return found

    def line_of(self, deed, place):
        """The line of a deed, where it puts one rule ahead of the others; and that deed."""
        word, house, about = deed
        if word in ("tie", "untie"):
            return f"{word} {house} {about}", deed
        at = place[1].index(house)
        rule = about[:1]
        bare = (place[0], place[1], (), *[tuple(rule if kind == word and k == at else () for k in range(len(place[1])))
                                          for kind in ("like", "hand")])
        return show_town(bare).split("\n")[2], (word, house, rule + place[3 if word == "like" else 4][at])

    def test_all_that_can_be_said(self):
        chance = random.Random(121)
        kinds = {}
        for _ in range(25):
            place = oracle.some_town(chance, "abcd", 2, 1)
            told, run = desk(place), Run(place)
            for _ in range(25):
                for line, text in self.plain_answers(run).items():
                    self.assertEqual(answer(told, line), text)
                deed = some_deed(chance, run.town())
                if chance.random() < 0.3 and deed[2]:
                    line, deed = self.line_of(deed, run.town())
                    self.assertEqual(told.say(line), "ok")
                    run.change(deed)
                else:
                    word, k = chance.choice(("come", "come", "copy", "lose")), chance.randint(0, len(run.road()))
                    expected = "ok"
                    try:
                        getattr(run, word)(k)
                    except (NoLetter, Needed) as error:
                        expected = type(error).__name__
                    self.assertEqual(answer(told, f"{word} {k}"), expected)
                    kinds[expected] = kinds.get(expected, 0) + 1
        self.assertGreater(min(kinds[kind] for kind in ("ok", "NoLetter", "Needed")), 10)


if __name__ == "__main__":
    unittest.main()
