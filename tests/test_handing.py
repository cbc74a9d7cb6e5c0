import unittest

from restways.handing import handed
from samples import all_ties, town

HOUSES = "abcg"
KEEP = ("keep",)


def handed_by_a(*hands):
    return town("g", HOUSES, all_ties(HOUSES), {}, {"a": hands})


class Handed(unittest.TestCase):
    def tells(self, answer, place, marks=(), to="b", way=("a", "g")):
        self.assertEqual(handed(place, way, marks, to), answer)
        if answer is not None:
            self.assertIsInstance(handed(place, way, marks, to), tuple)

    def test_without_hands(self):
        self.tells((), handed_by_a())
        self.tells(("m", "n"), handed_by_a(), ("m", "n"))

    def test_put(self):
        place = handed_by_a(((), ("put", "m")))
        self.tells(("m",), place)
        self.tells(("m",), place, ("m",))
        self.tells(("a", "m"), place, ("a",))
        self.tells(("m", "z"), place, ("z",))

    def test_marks_called_like_acts(self):
        self.tells(("keep",), handed_by_a(((), ("put", "keep"))))
        self.tells(("put",), handed_by_a(((), ("strike", "keep")), ((), ("strike", "strike"))), ("keep", "put"))

    def test_strike(self):
        place = handed_by_a(((), ("strike", "m")))
        self.tells((), place)
        self.tells((), place, ("m",))
        self.tells(("a", "z"), place, ("a", "m", "z"))
        self.tells(("mm",), place, ("mm",))

    def test_keep(self):
        self.tells(None, handed_by_a(((), KEEP)), ("m",))
        self.tells(None, handed_by_a(((), ("put", "m")), ((), KEEP), ((), ("put", "n"))))
        self.tells(None, handed_by_a(((), KEEP), ((), ("strike", "m"))), ("m",))

    def test_conds_must_all_hold(self):
        conds = (("by", "c"), ("mark", "m"), ("to", "b"), ("not", ("long", 3)))
        for act, there, not_there in ((KEEP, None, ("m",)), (("put", "x"), ("m", "x"), ("m",)), (("strike", "m"), (), ("m",))):
            place = handed_by_a((conds, act))
            self.tells(there, place, ("m",), "b", ("a", "c", "g"))
            self.tells(not_there, place, ("m",), "b", ("a", "g"))
            self.tells(not_there, place, ("m",), "c", ("a", "c", "g"))
            self.tells(not_there, place, ("m",), "b", ("a", "b", "c", "g"))
            self.tells(handed(handed_by_a(), ("a", "c", "g"), (), "b"), place, (), "b", ("a", "c", "g"))

    def test_marks_as_they_are_by_then(self):
        place = handed_by_a(((), ("put", "m")), ((("mark", "m"),), ("put", "n")), ((("mark", "n"),), ("strike", "m")))
        self.tells(("n",), place)
        self.tells(("n",), place, ("m",))
        place = handed_by_a(((("mark", "m"),), ("put", "n")), ((), ("put", "m")))
        self.tells(("m",), place)
        self.tells(("m", "n"), place, ("m",))
        self.tells(None, handed_by_a(((), ("put", "m")), ((("mark", "m"),), KEEP)))
        self.tells((), handed_by_a(((), ("strike", "m")), ((("mark", "m"),), KEEP)), ("m",))

    def test_hands_in_order(self):
        put, strike = ((), ("put", "m")), ((), ("strike", "m"))
        self.tells((), handed_by_a(put, strike))
        self.tells(("m",), handed_by_a(strike, put))
        self.tells(("m",), handed_by_a(put, strike, put), ("m",))

    def test_rising_and_each_once(self):
        place = handed_by_a(*[((), ("put", mark)) for mark in ("z", "b", "m", "b", "a", "z")])
        self.tells(("a", "b", "m", "z"), place)
        self.tells(("a", "b", "g", "m", "z"), place, ("b", "g"))

    def test_to(self):
        place = handed_by_a(((("to", "b"),), KEEP), ((("not", ("to", "c")),), ("put", "m")))
        self.tells(None, place, (), "b")
        self.tells((), place, (), "c")
        self.tells(("m",), place, (), "g")

    def test_to_a_house_of_the_way(self):
        place = handed_by_a(((("to", "c"),), ("put", "m")))
        self.tells(("m",), place, (), "c", ("a", "c", "g"))
        self.tells((), place, (), "g", ("a", "c", "g"))
        self.tells(None, handed_by_a(((("to", "g"),), KEEP)), (), "g", ("a", "c", "g"))

    def test_the_hands_of_its_own_house(self):
        rules = {house: [((), ("put", house))] for house in "abg"}
        place = town("g", HOUSES, all_ties(HOUSES), {}, rules)
        self.tells(("a",), place, (), "c", ("a", "b", "g"))
        self.tells(("b",), place, (), "c", ("b", "a", "g"))
        self.tells((), place, (), "a", ("c", "b", "g"))
        self.tells(("g",), place, (), "a", ("g",))

    def test_likings_count_for_nothing(self):
        place = town("g", HOUSES, all_ties(HOUSES), {"a": [((), None)]}, {})
        self.tells(("m",), place, ("m",))

    def test_ninety_hands(self):
        place = handed_by_a(*([((("by", "x"),), KEEP)] * 89 + [((), ("put", "m"))]))
        self.tells(("m",), place)

    def test_nothing_is_changed(self):
        place, way, marks = handed_by_a(((), ("put", "a")), ((), ("strike", "m"))), ("a", "g"), ("m", "n")
        self.assertEqual(handed(place, way, marks, "b"), ("a", "n"))
        self.assertEqual((way, marks), (("a", "g"), ("m", "n")))
        self.assertEqual(handed(place, way, marks, "b"), ("a", "n"))


if __name__ == "__main__":
    unittest.main()
