import unittest

from doneroom.lines import gives, is_line, reads
from helper import EACH_KIND, KEPT, OTHER_THINGS

NO_NAMES = KEPT + ("ninelongs", "", "X", "x1", "x y", 0, 1, True, False, None, ("x",), ["x"], (), [])


class LineTests(unittest.TestCase):
    def check(self, thing, told):
        with self.subTest(thing=thing):
            self.assertIs(is_line(thing), told)

    def test_each_kind_right(self):
        self.assertEqual(len(EACH_KIND), 12)
        for line in EACH_KIND:
            self.check(line, True)
            self.check(line[:1] + ("eightlet",) * (len(line) - 1), True)
            self.check(line[:1] + ("same",) * (len(line) - 1), True)

    def test_a_name_too_few_or_too_many(self):
        for line in EACH_KIND:
            self.check(line + ("x",), False)
            self.check(line[:-1], False)
            self.check(line[:1] + ("x",) * 5, False)

    def test_just_so_many_names(self):
        many = {line[0]: len(line) for line in EACH_KIND}
        for kind in many:
            for count in range(8):
                self.check((kind,) + ("x",) * count, 1 + count == many[kind])

    def test_no_name_at_each_place(self):
        for line in EACH_KIND:
            for at in range(1, len(line)):
                for thing in NO_NAMES:
                    self.check(line[:at] + (thing,) + line[at + 1:], False)

    def test_another_first_word(self):
        firsts = ("part", "x", "", "Pair", "pair ", "sames", "=", "third", None, 0, 1, True, False, ("pair",), ["pair"], ("either",), ())
        for line in EACH_KIND:
            for first in firsts:
                self.check((first,) + line[1:], False)
        for first in firsts:
            for count in range(5):
                self.check((first,) + ("x",) * count, False)

    def test_a_list_in_the_place_of_the_tuple(self):
        for line in EACH_KIND:
            self.check(list(line), False)
            self.check((line,), False)
            self.check([line], False)
            self.check(" ".join(line), False)

    def test_other_things(self):
        for thing in OTHER_THINGS + KEPT:
            self.check(thing, False)

    def test_what_is_handed_in_stays(self):
        thing = ["pair", "x", ["w"], ("y",), "z"]
        is_line(thing)
        self.assertEqual(thing, ["pair", "x", ["w"], ("y",), "z"])


class BoxTests(unittest.TestCase):
    def test_gives(self):
        told = {"pair": "x", "first": "x", "second": "x", "same": "x", "none": "x"}
        for line in EACH_KIND:
            with self.subTest(line=line):
                self.assertEqual(gives(line), told.get(line[0]))

    def test_reads(self):
        told = {"first": "y", "second": "y", "tell": "y"}
        for line in EACH_KIND:
            with self.subTest(line=line):
                self.assertEqual(reads(line), told.get(line[0]))

    def test_a_box_that_is_given_and_read(self):
        self.assertEqual((gives(("first", "x", "x")), reads(("first", "x", "x"))), ("x", "x"))
        self.assertEqual((gives(("same", "x", "x")), reads(("same", "x", "x"))), ("x", None))


if __name__ == "__main__":
    unittest.main()
