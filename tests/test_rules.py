import unittest

from restways.rules import holds, is_cond, is_hand, is_liking
from samples import NEVER_RIGHT, nested_not, spoilt

PLAIN = (("by", "a"), ("from", "b"), ("to", "c"), ("mark", "m"), ("long", 3))
NO_NAMES = ("", "A", "abcdefghi", "if", "and", "not", "never", "a b", "a1", 1, None, True, b"a", ("a",), ["a"])


class Tells(unittest.TestCase):
    def tells(self, question, answer, *things):
        for thing in things:
            with self.subTest(thing=repr(thing)):
                self.assertIs(question(thing), answer)


class Conds(Tells):
    def test_each_sort(self):
        self.tells(is_cond, True, *PLAIN)

    def test_each_sort_within_not(self):
        self.tells(is_cond, True, *[("not", cond) for cond in PLAIN])

    def test_not_of_not(self):
        self.tells(is_cond, False, *[("not", ("not", cond)) for cond in PLAIN])
        self.tells(is_cond, False, *[nested_not(depth) for depth in range(3, 61)])

    def test_names_that_are_none(self):
        for word in ("by", "from", "to", "mark"):
            self.tells(is_cond, False, *[(word, name) for name in NO_NAMES])
            self.tells(is_cond, False, *[("not", (word, name)) for name in NO_NAMES])

    def test_long(self):
        for n in (0, 1, 50, 98, 99):
            self.tells(is_cond, True, ("long", n), ("not", ("long", n)))
        for n in (-1, 100, 10 ** 30, -(10 ** 30), True, False, "3", "", "a", None, b"3", (3,), [3]):
            self.tells(is_cond, False, ("long", n), ("not", ("long", n)))

    def test_a_number_for_a_name(self):
        self.tells(is_cond, False, ("by", 3), ("long", "a"))

    def test_other_words(self):
        for word in ("", "By", "BY", "by ", " by", "b", "via", "marks", "longer", "keep", "if", "and", "never"):
            self.tells(is_cond, False, (word, "a"), (word, 3), (word, ("by", "a")))

    def test_words_that_are_no_texts(self):
        self.tells(is_cond, False, (None, "a"), (b"by", "a"), (0, "a"), (("by",), "a"), (["by"], "a"))

    def test_a_thing_more_or_fewer(self):
        self.tells(is_cond, False, (), ("by",), ("long",), ("not",), ("by", "a", "b"), ("long", 3, 3))
        self.tells(is_cond, False, ("not", ("by", "a"), ("by", "a")), ("not", "by", "a"), ("not", ("by",)))
        self.tells(is_cond, False, ("not", ()), ("not", ("by", "a", "b")), ("not", "a"), ("not", None))

    def test_lists_for_tuples(self):
        self.tells(is_cond, False, ["by", "a"], ["long", 3], ["not", ("by", "a")], ("not", ["by", "a"]))

    def test_texts_for_tuples(self):
        self.tells(is_cond, False, "by", "ba", "not")

    def test_odd_things(self):
        self.tells(is_cond, False, None, *NEVER_RIGHT)
        for cond in PLAIN:
            self.tells(is_cond, False, *spoilt(cond))
            self.tells(is_cond, False, *spoilt(("not", cond)))


class Likings(Tells):
    def test_conds(self):
        for conds in ((), (("by", "a"),), PLAIN[:2] + PLAIN[3:], (("by", "a"),) * 4):
            self.tells(is_liking, True, (conds, 5))
        self.tells(is_liking, False, ((("by", "a"),) * 5, 5), ((("by", "a"),) * 90, 5))

    def test_conds_that_are_none(self):
        self.tells(is_liking, False, (("by", "a"), 5), ((("by", "A"),), 5), ((("by", "a"), ()), 5), ((None,), 5))
        self.tells(is_liking, False, (None, 5), ("", 5), ([], 5), ([("by", "a")], 5), ({}, 5), ((["by", "a"],), 5))

    def test_no_to(self):
        to = ("to", "a")
        self.tells(is_liking, False, ((to,), 5), ((("not", to),), 5), ((to,), None), ((("not", to),), None))
        self.tells(is_liking, False, ((("by", "a"), to), 5), ((("by", "a"),) * 3 + (("not", to),), 5))

    def test_a_house_called_to(self):
        self.tells(is_liking, True, ((("by", "to"), ("not", ("from", "to")), ("mark", "to")), 5))

    def test_worths(self):
        self.tells(is_liking, True, *[((), worth) for worth in (-999, -998, -1, 0, 1, 998, 999, None)])
        self.tells(is_liking, False, *[((), worth) for worth in (-1000, 1000, 10 ** 30, -(10 ** 30))])
        self.tells(is_liking, False, *[((), worth) for worth in (True, False, "", "5", "never", b"5", (), (5,), [5])])

    def test_a_thing_more_or_fewer(self):
        self.tells(is_liking, False, (), ((),), (5,), ((), 5, 5), ((), 5, None), None, 5)

    def test_lists_for_tuples(self):
        self.tells(is_liking, False, [(), 5], ([], 5), [[], 5])

    def test_a_hand_is_no_liking(self):
        self.tells(is_liking, False, ((), ("keep",)), ((), ("put", "m")), ((("to", "a"),), ("strike", "m")))

    def test_odd_things(self):
        self.tells(is_liking, False, None, *NEVER_RIGHT)
        self.tells(is_liking, False, *spoilt(((("by", "a"), ("not", ("long", 3))), 5)))


class Hands(Tells):
    def test_conds(self):
        for conds in ((), (("by", "a"),), PLAIN[1:], (("not", ("to", "a")),), (("by", "a"),) * 4):
            self.tells(is_hand, True, (conds, ("keep",)))
        self.tells(is_hand, False, ((("by", "a"),) * 5, ("keep",)), (PLAIN, ("keep",)))

    def test_conds_that_are_none(self):
        self.tells(is_hand, False, (("by", "a"), ("keep",)), ((("by", "A"),), ("keep",)), ((None,), ("keep",)))
        self.tells(is_hand, False, (None, ("keep",)), ("", ("keep",)), ([], ("keep",)), ((["by", "a"],), ("keep",)))

    def test_acts(self):
        self.tells(is_hand, True, *[((), act) for act in (("keep",), ("put", "m"), ("strike", "m"), ("put", "keep"))])

    def test_acts_that_are_none(self):
        acts = (("keep", "m"), ("put",), ("strike",), ("put", "m", "n"), ("strike", "m", "n"), ("Keep",), ("hold",))
        self.tells(is_hand, False, *[((), act) for act in acts])
        acts = ((), "keep", "put", ["keep"], ["put", "m"], ("move", "m"), ("", "m"), (None, "m"), (None,), None, (b"keep",))
        self.tells(is_hand, False, *[((), act) for act in acts])
        for word in ("put", "strike"):
            self.tells(is_hand, False, *[((), (word, name)) for name in NO_NAMES])

    def test_a_thing_more_or_fewer(self):
        self.tells(is_hand, False, (), ((),), (("keep",),), ((), ("keep",), ()), ((), "put", "m"), None)

    def test_lists_for_tuples(self):
        self.tells(is_hand, False, [(), ("keep",)], ([], ("keep",)))

    def test_a_liking_is_no_hand(self):
        self.tells(is_hand, False, ((), 5), ((), None), ((("by", "a"),), -999))

    def test_odd_things(self):
        self.tells(is_hand, False, None, *NEVER_RIGHT)
        self.tells(is_hand, False, *spoilt(((("by", "a"), ("not", ("to", "b"))), ("keep",))))
        self.tells(is_hand, False, *spoilt(((), ("put", "m"))))


class Holds(unittest.TestCase):
    def tells(self, answer, cond, way=("a", "b", "g"), marks=(), to=None):
        with self.subTest(cond=cond, way=way, marks=marks, to=to):
            self.assertIs(holds(cond, way, marks, to), answer)
            self.assertIs(holds(("not", cond), way, marks, to), not answer)

    def test_by(self):
        for house in "abg":
            self.tells(True, ("by", house))
        for house in ("c", "ab", "bg"):
            self.tells(False, ("by", house))
        self.tells(False, ("by", "m"), marks=("m",), to="m")

    def test_from(self):
        self.tells(True, ("from", "b"))
        self.tells(False, ("from", "a"))
        self.tells(False, ("from", "g"))
        self.tells(False, ("from", "c"), to="c")
        self.tells(True, ("from", "g"), way=("b", "g"))

    def test_from_of_a_way_of_one_house(self):
        self.tells(False, ("from", "g"), way=("g",))
        self.tells(False, ("from", "a"), way=("g",), to="a")

    def test_to(self):
        self.tells(True, ("to", "c"), to="c")
        self.tells(True, ("to", "a"), to="a")
        self.tells(False, ("to", "c"), to="d")
        self.tells(False, ("to", "a"), to="c")

    def test_to_without_a_house(self):
        self.tells(False, ("to", "a"))
        self.assertIs(holds(("to", "a"), ("a", "g"), ()), False)
        self.assertIs(holds(("not", ("to", "a")), ("a", "g"), ()), True)
        self.assertIs(holds(("to", "b"), ("a", "g"), (), to="b"), True)

    def test_mark(self):
        self.tells(True, ("mark", "m"), marks=("m",))
        self.tells(True, ("mark", "m"), marks=("k", "m", "z"))
        self.tells(False, ("mark", "m"))
        self.tells(False, ("mark", "m"), marks=("mm", "n"))
        self.tells(False, ("mark", "a"), to="a")

    def test_long(self):
        self.tells(True, ("long", 0))
        self.tells(True, ("long", 1))
        self.tells(True, ("long", 2))
        self.tells(False, ("long", 3))
        self.tells(False, ("long", 99))
        self.tells(True, ("long", 0), way=("g",))
        self.tells(False, ("long", 1), way=("g",))
        ten = tuple("abcdefghij")
        self.tells(True, ("long", 9), way=ten)
        self.tells(False, ("long", 10), way=ten)

    def test_nothing_is_changed(self):
        way, marks = ("a", "b", "g"), ("m", "n")
        for cond in PLAIN:
            told = holds(cond, way, marks, "c")
            self.assertIs(holds(cond, way, marks, "c"), told)
            self.assertEqual((way, marks), (("a", "b", "g"), ("m", "n")))


if __name__ == "__main__":
    unittest.main()
