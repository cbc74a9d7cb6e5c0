import random
import unittest

import oracle
from restways.errors import NoText, RestError
from restways.reading import read_town
from restways.showing import show_town
from restways.towns import is_town
from samples import JUST_401, LONG_NAMES, NEVER_RIGHT, NO_REST, SIXTEEN_RESTS, nested, town

KEEP = ("keep",)
# A row of each kind, and each kind of cond.
ALL_KINDS = (
    "goal g",
    "houses a b g",
    "tie a b",
    "tie a g",
    "tie b g",
    "like a -3 if by b and not from g and long 2",
    "like a never if mark m",
    "like a 0",
    "like b 999 if not mark m and not long 0 and not by a and from a",
    "like g -999",
    "hand a put m if to b and from g",
    "hand a strike n if not to b",
    "hand a keep",
    "hand g put goal if long 99 and by zzz",
)
TEXT = "\n".join(ALL_KINDS)
TOWN = (
    "g", ("a", "b", "g"), (("a", "b"), ("a", "g"), ("b", "g")),
    (
        (((("by", "b"), ("not", ("from", "g")), ("long", 2)), -3), ((("mark", "m"),), None), ((), 0)),
        (((("not", ("mark", "m")), ("not", ("long", 0)), ("not", ("by", "a")), ("from", "a")), 999),),
        (((), -999),),
    ),
    (
        (((("to", "b"), ("from", "g")), ("put", "m")), ((("not", ("to", "b")),), ("strike", "n")), ((), KEEP)),
        (),
        (((("long", 99), ("by", "zzz")), ("put", "goal")),),
    ),
)
PLAIN = ("goal g", "houses a b g", "tie a b", "tie a g", "like a 1", "like b 2", "hand a keep", "hand b keep")


class Show(unittest.TestCase):
    def test_all_kinds_of_rows(self):
        self.assertEqual(show_town(TOWN), TEXT)

    def test_small_ones(self):
        self.assertEqual(show_town(town("g", "g")), "goal g\nhouses g")
        self.assertEqual(show_town(town("b", "abc")), "goal b\nhouses a b c")
        self.assertEqual(show_town(town("g", "ag", "ag")), "goal g\nhouses a g\ntie a g")
        self.assertEqual(show_town(LONG_NAMES), "\n".join((
            "goal home", "houses hill home hut mill", "tie hill home", "tie hill hut", "tie home hut", "tie hut mill",
            "like hill 2 if from hut", "hand hut put dusty if to mill")))

    def test_likings_ahead_of_all_hands(self):
        place = town("b", "ab", "ab", {"a": [((), 1)], "b": [((), None)]}, {"a": [((), KEEP)], "b": [((), ("put", "m"))]})
        self.assertEqual(show_town(place).split("\n")[3:],
                         ["like a 1", "like b never", "hand a keep", "hand b put m"])


class Read(unittest.TestCase):
    def is_read(self, place, rows):
        self.assertIs(is_town(place), True)
        self.assertEqual(read_town("\n".join(rows)), place)

    def refused(self, row, text):
        with self.assertRaises(NoText) as caught:
            read_town(text)
        self.assertIsInstance(caught.exception, RestError)
        self.assertEqual(caught.exception.row, row, repr(text))
        self.assertIs(type(caught.exception.row), int)
        if isinstance(text, str):
            self.assertEqual(oracle.read_town(text), row)

    def wrong_row(self, row, *before):
        """A row that isn't so written: its own number is told, whatever stands behind."""
        rows = list(before) + [row]
        self.refused(len(rows), "\n".join(rows))
        self.refused(len(rows), "\n".join(rows + ["hand a keep", "like", ""]))

    def no_town(self, *rows):
        """Rows that are so written, but make no town."""
        self.refused(len(rows) + 1, "\n".join(rows))

    def test_all_kinds_of_rows(self):
        self.is_read(TOWN, ALL_KINDS)
        self.assertEqual(oracle.read_town(TEXT), TOWN)

    def test_small_ones(self):
        self.is_read(town("g", "g"), ["goal g", "houses g"])
        self.is_read(town("b", "abc"), ["goal b", "houses a b c"])

    def test_words_of_rows_as_names(self):
        rows = ("goal by", "houses by from goal hand houses like long mark tie to", "tie by from", "tie goal to",
                "like by 5 if by by and from from and mark mark", "like tie never if by keep",
                "hand by put put if to to", "hand goal strike strike", "hand long keep if by keep")
        told = read_town("\n".join(rows))
        self.assertIs(is_town(told), True)
        self.assertEqual(show_town(told), "\n".join(rows))
        self.assertEqual(told[3][0], (((("by", "by"), ("from", "from"), ("mark", "mark")), 5),))
        self.assertEqual(told[4][0], (((("to", "to"),), ("put", "put")),))

    def test_of_no_text(self):
        for odd in (None, 0, 1, True, b"goal g\nhouses g", ["goal g", "houses g"], ("goal g", "houses g"), town("g", "g"),
                    nested(list, 60), nested(tuple, 60)) + NEVER_RIGHT:
            if not isinstance(odd, str):
                self.refused(0, odd)

    def test_odd_texts(self):
        for odd in NEVER_RIGHT:
            if isinstance(odd, str):
                self.refused(1, odd)

    def test_the_goals_row(self):
        for row in ("", "goal", "goal ", "goal  g", " goal g", "goal g ", "goal g g", "Goal g", "goal G", "goal if",
                    "goal and", "goal not", "goal never", "goal abcdefghi", "goal g1", "goal -", "goal 5", "goals g", "g",
                    "houses g", "houses a b g", "tie a b", "like a 5", "hand a keep", "goal\tg", "goal g."):
            self.wrong_row(row)

    def test_the_houses_row(self):
        for row in ("", "houses", "houses ", "houses  g", " houses g", "houses g ", "houses a  g", "Houses g", "houses A g",
                    "houses if", "houses a and g", "houses a not", "houses never g", "houses abcdefghi", "house g", "goal g",
                    "tie a g", "like g 5", "hand g keep", "houses a,g", "houses g1"):
            self.wrong_row(row, "goal g")

    def test_the_rows_of_ties(self):
        for row in ("", "tie", "tie a", "tie a ", "tie  a b", "tie a  b", " tie a b", "tie a b ", "tie a b g", "Tie a b",
                    "tie A b", "tie a B", "tie a if", "tie never b", "tie a abcdefghi", "ties a b", "tie a b if by a",
                    "untie a b", "tie a,b", "tie a 5"):
            self.wrong_row(row, *PLAIN[:3])

    def test_the_rows_of_likings(self):
        for row in ("like", "like a", "like a ", "like  a 5", "like a  5", " like a 5", "like a 5 ", "Like a 5", "like A 5",
                    "like 5 a", "like a b", "like a 5 6", "like a 05", "like a 00", "like a -0", "like a -05", "like a +5",
                    "like a 1000", "like a -1000", "like a --5", "like a -", "like a 5-", "like a Never", "like a none",
                    "like a 5.0", "like a 1e2", "like a 1_0", "like never 5", "like if 5", "like abcdefghi 5", "like a keep",
                    "like a -never", "like a 0x1"):
            self.wrong_row(row, *PLAIN[:5])

    def test_the_rows_of_hands(self):
        for row in ("hand", "hand a", "hand a ", "hand  a keep", "hand a  keep", " hand a keep", "hand a keep ",
                    "Hand a keep", "hand A keep", "hand a Keep", "hand a keep m", "hand a put", "hand a put ",
                    "hand a put m n", "hand a put M", "hand a put if", "hand a put never", "hand a put abcdefghi",
                    "hand a strike", "hand a strike not", "hand a strike m n", "hand a take m", "hand a 5", "hand keep a",
                    "hand a never", "hand never keep", "hand a put 5", "hand a"):
            self.wrong_row(row, *PLAIN[:6])

    def test_conds(self):
        for conds in ("if", "if ", "if by", "if by ", "if by  b", " if by b", "if by b ", "if by B", "if by if", "if b",
                      "if by b and", "if by b and ", "if and by b", "if by b and and by a", "if by b by a", "if by b c",
                      "if by b, by a", "if not", "if not by", "if not not by b", "if not b", "if Not by b", "if long",
                      "if long a", "if long 05", "if long 00", "if long -1", "if long +1", "if long -0", "if long 1000",
                      "if not long 1000", "if long 5 6", "if by 5", "if mark", "if mark never", "if mark m if by b", "by b",
                      "and by b", "if near b", "if if by b", "if by b or by a", "if by b And by a", "if by b and if by a",
                      "if to", "if to not", "if from abcdefghi", "if long 5.", "if by b  and by a", "if by b and  by a"):
            self.wrong_row(f"like a 5 {conds}", *PLAIN[:4])
            self.wrong_row(f"like a never {conds}", *PLAIN[:4])
            self.wrong_row(f"hand a keep {conds}", *PLAIN[:4])
            self.wrong_row(f"hand a put m {conds}", *PLAIN[:4])

    def test_numbers(self):
        for worth in (0, 1, 9, 10, 99, 100, 999, -1, -9, -10, -99, -100, -999):
            self.is_read(town("g", "ag", "ag", {"a": [((), worth)]}), ["goal g", "houses a g", "tie a g", f"like a {worth}"])
        for ties in (0, 1, 9, 10, 99):
            self.is_read(town("g", "ag", "ag", {}, {"g": [((("long", ties),), KEEP)]}),
                         ["goal g", "houses a g", "tie a g", f"hand g keep if long {ties}"])

    def test_an_empty_row(self):
        for at in range(len(ALL_KINDS) + 1):
            rows = ALL_KINDS[:at] + ("",) + ALL_KINDS[at:]
            self.refused(at + 1, "\n".join(rows))
        self.refused(1, "")
        self.refused(1, "\n")
        self.refused(3, "goal g\nhouses g\n")
        self.refused(len(ALL_KINDS) + 1, TEXT + "\n")

    def test_where_rows_may_not_stand(self):
        self.assertIs(is_town(read_town("\n".join(PLAIN))), True)
        for rows, row in (
            (("goal g", "goal g", "houses g"), 2), (("houses g", "goal g"), 1), (("goal g", "houses g", "goal g"), 3),
            (("goal g", "houses g", "houses g"), 3), (("goal g", "houses a g", "tie a g", "goal g"), 4),
            (("goal g", "houses a g", "like a 5", "tie a g"), 4), (("goal g", "houses a g", "hand a keep", "tie a g"), 4),
            (("goal g", "houses a g", "hand a keep", "like a 5"), 4),
            (("goal g", "houses a g", "hand a keep", "like g 5"), 4),
            (("goal g", "houses a g", "like g 5", "like a 5"), 4), (("goal g", "houses a g", "hand g keep", "hand a keep"), 4),
            (("goal g", "houses a g", "like a 5", "houses a g"), 4), (("goal g", "houses a g", "hand a keep", "goal g"), 4),
            (("goal g", "houses a b g", "like a 5", "like g 5", "like b 5", "like b 6"), 5),
            (("goal g", "houses a b g", "hand a keep", "hand g keep", "hand b keep"), 5),
        ):
            self.refused(row, "\n".join(rows))
        # The hands begin anew with the first house.
        self.is_read(town("g", "ag", "", {"g": [((), 5)]}, {"a": [((), KEEP)]}),
                     ["goal g", "houses a g", "like g 5", "hand a keep"])

    def test_a_house_that_is_not_in_its_row(self):
        for row in ("like c 5", "hand c keep", "like c never if by a", "hand c put m if to a", "like goal 5"):
            self.wrong_row(row, "goal g", "houses a b g", "tie a b")
        # Also where the town is none for something else.
        self.refused(3, "goal c\nhouses b a\nlike c 5")
        # In conds and marks anything may stand.
        self.assertIs(is_town(read_town("goal g\nhouses a g\nlike a 5 if by c\nhand a put c if to c and from c")), True)

    def test_by_the_order_of_the_houses_row(self):
        # The houses don't rise, so there is no town; the rules stand by their row all the same.
        self.no_town("goal g", "houses g a", "like g 5", "like a 5", "hand g keep", "hand a keep")
        self.refused(4, "goal g\nhouses g a\nlike a 5\nlike g 5")
        self.refused(4, "goal g\nhouses g a\nhand a keep\nhand g keep")
        # One that stands there twice stands by its first place.
        self.no_town("goal g", "houses a g a", "like a 5", "like g 5")
        self.refused(4, "goal g\nhouses a g a\nlike g 5\nlike a 5")
        self.no_town("goal g", "houses a b a g", "hand a keep", "hand b keep", "hand g keep")
        self.refused(5, "goal g\nhouses a b a g\nhand a keep\nhand b keep\nhand a keep")

    def test_rows_missing(self):
        self.no_town("goal g")
        self.refused(1, "houses g")

    def test_houses_that_make_no_town(self):
        self.no_town("goal c", "houses a b g")
        self.no_town("goal g", "houses g a")
        self.no_town("goal g", "houses a g g")
        self.no_town("goal g", "houses a b a g")
        self.no_town("goal a", "houses a b c d e f g h i j k")
        self.is_read(town("a", "abcdefghij"), ["goal a", "houses a b c d e f g h i j"])

    def test_ties_that_make_no_town(self):
        for ties in (["tie a c"], ["tie c g"], ["tie b a"], ["tie a a"], ["tie a b", "tie a b"], ["tie a g", "tie a b"],
                     ["tie a b", "tie b g", "tie a g"], ["tie g a"], ["tie x y"]):
            self.no_town("goal g", "houses a b g", *ties)
            self.no_town("goal g", "houses a b g", *ties, "like a 5", "hand b keep if by c")
            self.refused(3 + len(ties), "\n".join(["goal g", "houses a b g"] + ties + ["like a five"]))

    def test_rules_that_make_none(self):
        start = ["goal g", "houses a g", "tie a g"]
        for conds in ("if long 100", "if not long 100", "if long 999", "if by a and long 500"):
            self.no_town(*start, f"like a 5 {conds}")
            self.no_town(*start, f"hand a keep {conds}")
            self.no_town(*start, f"like g never {conds}", "hand a keep")
        for conds in ("if to g", "if not to g", "if by a and to g", "if to c"):
            self.no_town(*start, f"like a 5 {conds}")
            self.no_town(*start, f"like a never {conds}")
            self.assertIs(is_town(read_town("\n".join(start + [f"hand a keep {conds}"]))), True)
        four, five = " and ".join(["by a"] * 4), " and ".join(["by a"] * 5)
        for ahead in ("like a 5", "like g never", "hand a keep", "hand g put m"):
            self.no_town(*start, f"{ahead} if {five}")
            self.assertIs(is_town(read_town("\n".join(start + [f"{ahead} if {four}"]))), True)

    def test_too_many_rules(self):
        start = ["goal g", "houses a g", "tie a g"]
        for row in ("like a 5", "like g never if by a", "hand a keep", "hand g put m"):
            told = read_town("\n".join(start + [row] * 90))
            self.assertIs(is_town(told), True)
            self.assertEqual(sorted(len(rules) for rules in told[3] + told[4]), [0, 0, 0, 90])
            self.no_town(*start, *[row] * 91)
        both = start + ["like a 5"] * 90 + ["like g 5"] * 90 + ["hand a keep"] * 90 + ["hand g keep"] * 90
        self.assertEqual([len(rules) for rules in read_town("\n".join(both))[3]], [90, 90])

    def test_the_first_row_goes_first(self):
        self.refused(3, "goal g\nhouses a g\ntie a\nlike a\nhand")
        self.refused(4, "goal g\nhouses a a\ntie x y\nlike a\nhand")
        self.refused(1, "goal\nhouses\ntie")

    def test_other_line_ends(self):
        for text in ("goal g\r\nhouses g", "goal g\rhouses g", "goal g\n\nhouses g", "goal g\x0bhouses g"):
            with self.assertRaises(NoText):
                read_town(text)


class Both(unittest.TestCase):
    def test_what_is_written_is_read(self):
        chance = random.Random(111)
        places = [TOWN, LONG_NAMES, NO_REST, JUST_401, SIXTEEN_RESTS, town("g", "g"), town("a", "ag", "ag")]
        places += [oracle.some_town(chance, "abcdefghij"[:chance.randint(1, 10)], 5, 5) for _ in range(150)]
        for place in places:
            text = show_town(place)
            self.assertEqual(read_town(text), place)
            self.assertEqual(show_town(read_town(text)), text)
            self.assertEqual(oracle.read_town(text), place)

    def test_texts_of_chance(self):
        chance = random.Random(112)
        told = {}
        words = [word for row in ALL_KINDS for word in row.split()] + ["100", "1000", "007", "-0", "", "A", "x", "untie"]
        for turn in range(6000):
            place = oracle.some_town(chance, "abc", 2, 2) if turn % 2 else TOWN
            rows = show_town(place).split("\n")
            for _ in range(chance.choice((1, 1, 2))):
                at, other = chance.randrange(len(rows)), chance.randrange(len(rows))
                row = rows[at].split(" ")
                spot = chance.randrange(len(row))
                what = chance.randrange(7)
                if what == 0:
                    del rows[at]
                elif what == 1:
                    rows[at], rows[other] = rows[other], rows[at]
                elif what == 2:
                    rows.insert(at, rows[other])
                else:
                    change = {3: [], 4: [chance.choice(words)], 5: [row[spot], chance.choice(words)], 6: [row[spot]] * 2}
                    row[spot:spot + 1] = change[what]
                    rows[at] = " ".join(row)
                rows = rows or [""]
            text = "\n".join(rows)
            try:
                found = read_town(text)
            except NoText as error:
                found = error.row
            self.assertEqual(found, oracle.read_town(text), text)
            kind = "town" if isinstance(found, tuple) else "none" if found > len(rows) else "row"
            told[kind] = told.get(kind, 0) + 1
        self.assertGreater(min(told[kind] for kind in ("town", "none", "row")), 200)

    def test_each_sign(self):
        # One sign more, fewer or another one, at each place.
        signs = " ab0-9A\n.~"
        text = "goal g\nhouses a g\ntie a g\nlike a -10 if not long 10 and by g\nhand g put m if to a"
        others = [text[:at] + sign + text[at + more:] for at in range(len(text)) for more in (0, 1) for sign in signs]
        others += [text[:at] + text[at + 1:] for at in range(len(text))] + [text + sign for sign in signs]
        for other in others:
            try:
                found = read_town(other)
            except NoText as error:
                found = error.row
            self.assertEqual(found, oracle.read_town(other), repr(other))


if __name__ == "__main__":
    unittest.main()
