import unittest

from doneroom.flows import first_spot, line_of, next_spots, place_of
from helper import AGAIN, EITHER, END, OR, all_edges, do, good_programs, one

TELL = ("tell", "x")
PLAIN = (
    ("pair", "x", "w", "y", "z"),
    ("first", "x", "y"),
    ("second", "x", "y"),
    ("same", "x", "y"),
    ("none", "x"),
    TELL,
    ("back", "w"),
)
#         0      1       2    3      4   5    6      7    8
BLOCKS = (TELL, EITHER, TELL, AGAIN, END, OR, TELL, END, AGAIN, do("deep"), END)
TALL = (
    ("main", (TELL, do("mid"), do("deep"))),
    ("lone", BLOCKS),
    ("mid", BLOCKS),
    ("deep", (EITHER, OR, END)),
)
TO_MID = ((0, 1),)
TO_DEEP = ((0, 1), (2, 9))


class NextTests(unittest.TestCase):
    def check(self, program, spot, told):
        with self.subTest(spot=spot):
            self.assertEqual(next_spots(program, spot), told)

    def test_plain_lines(self):
        program = one(*PLAIN)
        for k in range(len(PLAIN)):
            self.check(program, ((), 0, k, False), [((), 0, k + 1, False)])
        self.check(program, ((), 0, len(PLAIN), False), [])

    def test_plain_lines_in_another_part(self):
        program = (("main", (do("sub"),)), ("sub", PLAIN))
        way = ((0, 0),)
        for k in range(len(PLAIN)):
            self.check(program, (way, 1, k, False), [(way, 1, k + 1, False)])
        self.check(program, (way, 1, len(PLAIN), False), [((), 0, 1, False)])

    def test_an_either(self):
        program = one(EITHER, TELL, TELL, OR, TELL, END, TELL)
        self.check(program, ((), 0, 0, False), [((), 0, 1, False), ((), 0, 4, False)])
        self.check(program, ((), 0, 3, False), [((), 0, 6, False)])
        self.check(program, ((), 0, 5, False), [((), 0, 6, False)])

    def test_an_again(self):
        program = one(TELL, AGAIN, TELL, TELL, END, TELL)
        self.check(program, ((), 0, 1, False), [((), 0, 1, True)])
        self.check(program, ((), 0, 1, True), [((), 0, 5, False), ((), 0, 2, False)])
        self.check(program, ((), 0, 4, False), [((), 0, 1, True)])

    def test_empty_branches_and_bodies(self):
        program = one(EITHER, OR, END, AGAIN, END)
        self.check(program, ((), 0, 0, False), [((), 0, 1, False), ((), 0, 2, False)])
        self.check(program, ((), 0, 1, False), [((), 0, 3, False)])
        self.check(program, ((), 0, 2, False), [((), 0, 3, False)])
        self.check(program, ((), 0, 3, False), [((), 0, 3, True)])
        self.check(program, ((), 0, 3, True), [((), 0, 5, False), ((), 0, 4, False)])
        self.check(program, ((), 0, 4, False), [((), 0, 3, True)])
        self.check(program, ((), 0, 5, False), [])

    def test_parts_come_to_by_do_lines_within_do_lines(self):
        self.check(TALL, ((), 0, 1, False), [(TO_MID, 2, 0, False)])
        self.check(TALL, ((), 0, 2, False), [(((0, 2),), 3, 0, False)])
        self.check(TALL, (TO_MID, 2, 1, False), [(TO_MID, 2, 2, False), (TO_MID, 2, 6, False)])
        self.check(TALL, (TO_MID, 2, 3, False), [(TO_MID, 2, 3, True)])
        self.check(TALL, (TO_MID, 2, 3, True), [(TO_MID, 2, 5, False), (TO_MID, 2, 4, False)])
        self.check(TALL, (TO_MID, 2, 4, False), [(TO_MID, 2, 3, True)])
        self.check(TALL, (TO_MID, 2, 5, False), [(TO_MID, 2, 8, False)])
        self.check(TALL, (TO_MID, 2, 7, False), [(TO_MID, 2, 8, False)])
        self.check(TALL, (TO_MID, 2, 8, True), [(TO_MID, 2, 11, False), (TO_MID, 2, 9, False)])
        self.check(TALL, (TO_MID, 2, 9, False), [(TO_DEEP, 3, 0, False)])
        self.check(TALL, (TO_DEEP, 3, 0, False), [(TO_DEEP, 3, 1, False), (TO_DEEP, 3, 2, False)])
        self.check(TALL, (TO_DEEP, 3, 1, False), [(TO_DEEP, 3, 3, False)])

    def test_last_gaps(self):
        self.check(TALL, (TO_DEEP, 3, 3, False), [(TO_MID, 2, 10, False)])
        self.check(TALL, (((0, 2),), 3, 3, False), [((), 0, 3, False)])
        self.check(TALL, (TO_MID, 2, 11, False), [((), 0, 2, False)])
        self.check(TALL, ((), 0, 3, False), [])
        self.check(one(), ((), 0, 0, False), [])

    def test_as_told_anew(self):
        for program in good_programs():
            for spot, told in all_edges(program).items():
                self.assertEqual(next_spots(program, spot), told)

    def test_kinds(self):
        for spot in all_edges(TALL):
            told = next_spots(TALL, spot)
            self.assertIs(type(told), list)
            for later in told:
                self.assertEqual([type(thing) for thing in later], [tuple, int, int, bool])
                self.assertIs(type(later), tuple)
                for step in later[0]:
                    self.assertEqual([type(step)] + [type(thing) for thing in step], [tuple, int, int])

    def test_a_told_list_is_the_askers_own(self):
        for spot, kept in all_edges(TALL).items():
            told = next_spots(TALL, spot)
            told.append("other")
            self.assertEqual(next_spots(TALL, spot), kept)


class SpotTests(unittest.TestCase):
    def test_first_spot(self):
        told = first_spot()
        self.assertEqual(told, ((), 0, 0, False))
        self.assertEqual([type(thing) for thing in told], [tuple, int, int, bool])

    def test_place(self):
        self.assertEqual(place_of(((), 0, 0, False)), (0, 0))
        self.assertEqual(place_of(((), 0, 7, False)), (0, 7))
        self.assertEqual(place_of((TO_DEEP, 3, 1, False)), (3, 1))
        self.assertIsNone(place_of(((), 0, 3, True)))
        self.assertIsNone(place_of((TO_MID, 2, 8, True)))
        self.assertIs(type(place_of((TO_DEEP, 3, 1, False))), tuple)

    def test_line(self):
        for k, line in enumerate(BLOCKS):
            self.assertEqual(line_of(TALL, (TO_MID, 2, k, False)), line)
        self.assertIsNone(line_of(TALL, (TO_MID, 2, len(BLOCKS), False)))
        self.assertIsNone(line_of(TALL, (TO_MID, 2, 3, True)))
        self.assertIsNone(line_of(TALL, (TO_MID, 2, 8, True)))
        self.assertEqual(line_of(TALL, ((), 0, 2, False)), do("deep"))
        self.assertIsNone(line_of(TALL, ((), 0, 3, False)))
        self.assertIsNone(line_of(one(), ((), 0, 0, False)))

    def test_line_of_each_kind(self):
        for line in PLAIN:
            self.assertEqual(line_of(one(TELL, line), ((), 0, 1, False)), line)


if __name__ == "__main__":
    unittest.main()
