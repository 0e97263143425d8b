import copy
import unittest

from doneroom.programs import boxes_of, is_program, places_of, words_of
from helper import (
    AGAIN,
    EACH_KIND,
    END,
    KEPT,
    OTHER_THINGS,
    backs,
    bound_cases,
    crooked_programs,
    do,
    drawn_programs,
    nested,
    one,
    parts,
    plain,
    times,
)


class ProgramTests(unittest.TestCase):
    def check(self, thing, told, why=None):
        with self.subTest(why=why or thing):
            self.assertIs(is_program(thing), told)

    def test_ordinary_ones(self):
        self.check(one(), True)
        self.check(one(("pair", "x", "w", "y", "z"), ("tell", "x")), True)
        self.check(parts(times(2, "b"), times(1, "c"), plain(2)), True)
        self.check(parts(nested(2, times(1, "c")), (), ()), True)
        for program in drawn_programs(80):
            self.check(program, True)

    def test_one_to_five_parts(self):
        for count in range(9):
            self.check(parts(*[()] * count), 1 <= count <= 5)

    def test_a_list_in_the_place_of_a_tuple(self):
        self.check((("a", (("tell", "x"),)),), True)
        self.check([("a", (("tell", "x"),))], False)
        self.check((["a", (("tell", "x"),)],), False)
        self.check((("a", [("tell", "x")]),), False)
        self.check((("a", (["tell", "x"],)),), False)
        self.check((("a", []),), False)
        self.check((("a", ()), ["b", ()]), False)
        self.check((("a", ()), ("b", [])), False)

    def test_parts_that_are_no_pairs(self):
        for part in (("a",), ("a", (), ()), (), "a", "ab", (("tell", "x"),), ((), "a"), ("a", "b"), ("a", None)):
            self.check((part,), False)
            self.check((("main", ()), part), False)

    def test_names_that_are_none(self):
        for name in KEPT + ("ninelongs", "", "A", "a1", None, 0, 1, True, ("a",), ["a"]):
            self.check(((name, ()),), False)
            self.check((("main", ()), (name, ())), False)
        self.check((("eightlet", ()), ("same", ())), True)

    def test_lines_that_are_none(self):
        for line in (("tell",), ("tell", "x", "y"), ("tell", "or"), ("part", "a"), ("x", "y"), (), None, 3, "end", ["end"]):
            self.check(one(line), False)
            self.check(one(("tell", "x"), line), False)
            self.check((("a", ()), ("b", (line,))), False)

    def test_crooked_ones(self):
        for why, program in crooked_programs().items():
            self.check(program, False, why)

    def test_do_of_any_part_behind(self):
        for own in range(5):
            for named in range(5):
                bodies = [(do("abcde"[named]),) if at == own else () for at in range(5)]
                self.check(parts(*bodies), named > own)

    def test_a_part_that_none_does(self):
        self.check(parts((), plain(3)), True)
        self.check(parts(times(1, "c"), plain(3), ()), True)

    def test_bounds(self):
        for why, kept, passed in bound_cases():
            self.check(kept, True, why)
            self.check(passed, False, why)

    def test_the_flat_program_is_the_first_parts(self):
        self.check(parts((), times(2, "c"), plain(48)), True, "lines")
        self.check(parts((), times(2, "c"), backs(500)), True, "backs")
        self.check(parts((), nested(6, times(1, "c")), nested(6)), True, "blocks")
        self.check(parts((), times(40, "c"), ()), True, "ways")
        self.check(parts(times(1, "b"), times(2, "c"), plain(48)), False, "lines")
        self.check(parts(times(1, "b"), nested(6, times(1, "c")), nested(6)), False, "blocks")

    def test_the_same_name_for_a_box_a_word_and_a_part(self):
        self.check((("a", (("pair", "a", "a", "b", "c"), ("pair", "d", "b", "e", "e"))), ("b", ())), True)
        self.check(one(*[("pair", "abcde"[k], "vwxyz"[k], "a", "a") for k in range(5)]), True)

    def test_far_beyond_the_bounds(self):
        self.check(parts(*[times(48, name) for name in "bcde"], plain(48)), False)
        self.check(parts((), *[times(48, name) for name in "cde"], plain(48) + backs(500)), True)
        self.check(one(*plain(20000)), False)
        self.check(one(*(AGAIN,) * 5000 + (END,) * 5000), False)

    def test_other_things(self):
        deep = ()
        for level in range(12):
            deep = (deep,)
        for thing in OTHER_THINGS + EACH_KIND + (deep, "main", ("main", ()), ("main", (("tell", "x"),))):
            self.check(thing, False)

    def test_what_is_handed_in_stays(self):
        thing = (("a", [["tell", "x"]]), ["b", ()])
        kept = copy.deepcopy(thing)
        is_program(thing)
        self.assertEqual(thing, kept)


WIDE = (
    ("main", (("pair", "q", "wb", "m", "d"), ("pair", "q", "wa", "q", "q"), ("back", "wc"), ("do", "sub"))),
    ("sub", (("pair", "d", "wb", "d", "d"),)),
    ("lone", (("pair", "a", "wd", "z", "z"), AGAIN, ("back", "wa"), END)),
)


class ListTests(unittest.TestCase):
    def test_boxes(self):
        self.assertEqual(boxes_of(WIDE), ["a", "d", "m", "q", "z"])
        self.assertEqual(boxes_of(one()), [])
        self.assertEqual(boxes_of(one(("back", "w"), AGAIN, END)), [])

    def test_boxes_of_each_kind_of_line(self):
        told = {
            "pair": ["x", "y", "z"],
            "first": ["x", "y"],
            "second": ["x", "y"],
            "same": ["x", "y"],
            "none": ["x"],
            "tell": ["y"],
        }
        for line in EACH_KIND:
            with self.subTest(line=line):
                self.assertEqual(boxes_of(one(line)), told.get(line[0], []))

    def test_words(self):
        self.assertEqual(words_of(WIDE), ["wa", "wb", "wd"])
        self.assertEqual(words_of(one()), [])
        self.assertEqual(words_of(one(("back", "w"))), [])
        self.assertEqual(words_of(one(*[line for line in EACH_KIND if line[0] != "pair"])), [])

    def test_places(self):
        told = [(0, 0), (0, 1), (0, 2), (0, 3), (0, 4), (1, 0), (1, 1), (2, 0), (2, 1), (2, 2), (2, 3), (2, 4)]
        self.assertEqual(places_of(WIDE), told)
        self.assertEqual(places_of(one()), [(0, 0)])
        self.assertEqual(places_of(parts((), plain(1), ())), [(0, 0), (1, 0), (1, 1), (2, 0)])

    def test_places_rise_by_numbers(self):
        places = places_of(parts(plain(12), plain(11)))
        self.assertEqual(places, [(0, gap) for gap in range(13)] + [(1, gap) for gap in range(12)])

    def test_kinds(self):
        for told in (boxes_of(WIDE), words_of(WIDE), places_of(WIDE)):
            self.assertIs(type(told), list)
            self.assertEqual(told, sorted(set(told)))
        for place in places_of(WIDE):
            self.assertEqual([type(place), type(place[0]), type(place[1])], [tuple, int, int])

    def test_a_told_list_is_the_askers_own(self):
        for ask in (boxes_of, words_of, places_of):
            told = ask(WIDE)
            kept = list(told)
            told.reverse()
            told.append("other")
            self.assertEqual(ask(WIDE), kept)


if __name__ == "__main__":
    unittest.main()
