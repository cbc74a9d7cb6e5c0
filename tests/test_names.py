import unittest

from restways.names import is_name
from samples import NEVER_RIGHT


class Names(unittest.TestCase):
    def tells(self, answer, *things):
        for thing in things:
            with self.subTest(thing=repr(thing)):
                self.assertIs(is_name(thing), answer)

    def test_one_to_eight_letters(self):
        self.tells(True, "a", "z", "m", "ab", "zz", "abcdefgh", "zzzzzzzz", "goal")

    def test_every_letter(self):
        self.tells(True, *"abcdefghijklmnopqrstuvwxyz")

    def test_too_long_and_empty(self):
        self.tells(False, "", "abcdefghi", "a" * 9, "a" * 1000)

    def test_other_signs(self):
        self.tells(False, "A", "Z", "aB", "Ab", "a1", "1", "0", "a b", " a", "a ", " ", "a\n", "\na", "\n", "a\nb")
        self.tells(False, "a.b", ".", "a.", "a-b", "-", "a_b", "_", "`", "{", "a`", "a{", "a\t", "a\0")

    def test_letters_of_other_alphabets(self):
        self.tells(False, "\u00e9", "a\u00e9", "\u00df", "\u0430", "\uff41", "\u00aa", "\ud800", "\U0001d41a")

    def test_words_that_are_taken(self):
        self.tells(False, "if", "and", "not", "never")

    def test_taken_words_with_a_letter_more_or_fewer(self):
        self.tells(True, "i", "f", "an", "nd", "no", "ot", "neve", "ever")
        self.tells(True, "iff", "ands", "nots", "nevers", "aif", "sand", "knot", "anever")

    def test_words_with_a_meaning_elsewhere_are_names(self):
        self.tells(True, "by", "from", "to", "mark", "long", "keep", "put", "strike", "goal", "tie", "like", "or")

    def test_no_texts(self):
        self.tells(False, None, 0, 1, True, b"a", ["a"], ("a",), {"a"}, {"a": "a"}, str, object())

    def test_odd_things(self):
        self.tells(False, *NEVER_RIGHT)


if __name__ == "__main__":
    unittest.main()
