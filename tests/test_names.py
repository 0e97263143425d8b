import string
import unittest

from doneroom.names import is_name
from helper import KEPT


class NameTests(unittest.TestCase):
    def check(self, thing, told):
        with self.subTest(thing=thing):
            self.assertIs(is_name(thing), told)

    def test_one_to_eight_small_letters(self):
        for count in range(1, 9):
            self.check("x" * count, True)
        self.check("", False)
        for count in (9, 10, 80):
            self.check("x" * count, False)

    def test_every_small_letter(self):
        for letter in string.ascii_lowercase:
            self.check(letter, True)
            self.check("q" + letter + "q", True)

    def test_kept_words(self):
        self.assertEqual(len(KEPT), 12)
        for word in KEPT:
            self.check(word, False)

    def test_a_letter_more_or_less_than_a_kept_word(self):
        for word in KEPT:
            longer = [word + "x", "x" + word]
            shorter = [word[:-1], word[1:]]
            for near in longer + shorter:
                self.check(near, near not in KEPT)

    def test_words_that_are_not_kept(self):
        for word in ("same", "parts", "eithers", "ors", "pairs", "ends", "word", "room", "ro", "box", "doo", "d", "o"):
            self.check(word, True)

    def test_other_signs(self):
        for sign in string.printable + "\x00\x7f\u00e9\u00df\u03b1\u0131\u00aa\u01c6":
            if sign not in string.ascii_lowercase:
                self.check(sign, False)
                self.check("a" + sign, False)
                self.check(sign + "a", False)
                self.check("a" + sign + "b", False)

    def test_capitals_of_kept_words(self):
        for word in KEPT:
            self.check(word.upper(), False)
            self.check(word.capitalize(), False)

    def test_line_end_behind(self):
        self.check("x\n", False)
        self.check("\n", False)
        self.check("x ", False)

    def test_no_texts(self):
        for thing in (True, False, 0, 1, 5, -1, None, [], ["x"], (), ("x",), ["x", "y"], ("a", "b", "c"), [[]], (("x",),)):
            self.check(thing, False)


if __name__ == "__main__":
    unittest.main()
