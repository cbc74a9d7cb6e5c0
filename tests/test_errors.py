import unittest

from restways.errors import Forged, HasRing, Needed, NoDeed, NoLetter, NoRow, NoText, RestError, TooMany

PLAIN = (TooMany, NoLetter, Needed, NoDeed, Forged, NoRow)
ALL = PLAIN + (HasRing, NoText)


class Errors(unittest.TestCase):
    def test_any_refusal(self):
        self.assertEqual(RestError.__bases__, (ValueError,))

    def test_each_straight_under_it(self):
        for kind in ALL:
            with self.subTest(kind=kind.__name__):
                self.assertEqual(kind.__bases__, (RestError,))

    def test_none_under_another(self):
        for kind in ALL:
            for other in ALL:
                self.assertIs(issubclass(kind, other), kind is other)

    def test_made_without_anything(self):
        for kind in PLAIN:
            with self.subTest(kind=kind.__name__):
                with self.assertRaises(RestError):
                    raise kind()

    def test_has_ring_bears_a_ring(self):
        ring = [("a", "g"), ("a", "b", "g"), ("b", "g"), ("b", "a", "g"), ("a", "g")]
        self.assertEqual(HasRing(list(ring)).ring, ring)
        self.assertEqual(HasRing(ring=list(ring)).ring, ring)
        with self.assertRaises(TypeError):
            HasRing()

    def test_no_text_bears_a_row(self):
        self.assertEqual(NoText(3).row, 3)
        self.assertEqual(NoText(row=0).row, 0)
        with self.assertRaises(TypeError):
            NoText()

    def test_they_can_be_shown(self):
        for error in (HasRing([("g",)]), NoText(1), TooMany()):
            self.assertIsInstance(str(error), str)


if __name__ == "__main__":
    unittest.main()
