import random
import time
import unittest

from doneroom.holds import holds
from doneroom.programs import is_program, places_of
from doneroom.readers import takes
from doneroom.runs import is_run
from doneroom.spots import spots
from doneroom.stretches import way_to
from helper import AGAIN, END, all_paths, busy_programs, deepest_program, do, late_of, lead, leafy_program, named_boxes
from helper import named_words, one, plain_run, widest_program

MAKE = ("pair", "x", "w", "y", "y")
LIST = one(AGAIN, ("pair", "x", "w", "x", "y"), END)


class WayTests(unittest.TestCase):
    # Tells whether there is a way; if so, that it does what it should.
    def check(self, program, word, n, box, path, place=None, late=0):
        kept = list(path)
        run = way_to(program, word, n, box, path, place, late)
        self.assertEqual(path, kept)
        if run is None:
            return False
        self.assertIs(type(run), list)
        self.assertIs(is_run(program, run), True)
        self.assertEqual(run[-1], spots(program)[n])
        room = lead(plain_run(program, run)[3][box], path)
        self.assertIsNotNone(room)
        self.assertEqual(room.word, word)
        self.assertEqual(late_of(run, room, place), late)
        return True

    def test_the_path_without_letters(self):
        for n, found in ((0, False), (1, True), (2, True)):
            self.assertIs(self.check(one(MAKE, ("tell", "x")), "w", n, "x", []), found)
            self.assertIs(self.check(one(MAKE, ("tell", "x")), "w", n, "y", []), False)

    def test_the_run_told(self):
        program = one(MAKE, ("tell", "x"))
        self.assertEqual(way_to(program, "w", 1, "x", []), [((), 0, 0, False), ((), 0, 1, False)])
        self.assertEqual(way_to(program, "w", 1, "x", [], (0, 1), 1), [((), 0, 0, False), ((), 0, 1, False)])
        self.assertIsNone(way_to(program, "w", 1, "x", [], (0, 1)))
        self.assertIsNone(way_to(program, "w", 1, "x", [], (0, 0), 1))

    def test_late_without_a_place(self):
        for program in busy_programs(10) + [one(MAKE, AGAIN, ("tell", "x"), END)]:
            for n in range(len(spots(program))):
                for box in named_boxes(program):
                    self.assertIsNone(way_to(program, named_words(program)[0], n, box, [], None, 1))
                    self.assertIsNone(way_to(program, named_words(program)[0], n, box, [], late=1))

    def test_late_and_not_late(self):
        program = one(MAKE, AGAIN, ("tell", "x"), END)
        # Spots: 0 pair, 1 again, 2 head, 3 last gap, 4 tell, 5 end.
        for n, early, late in ((1, True, False), (2, True, True), (3, True, True), (4, False, True), (5, False, True)):
            self.assertIs(self.check(program, "w", n, "x", [], (0, 2), 0), early)
            self.assertIs(self.check(program, "w", n, "x", [], (0, 2), 1), late)

    def test_the_place_come_to_ahead_of_the_making(self):
        program = one(("tell", "x"), MAKE)
        self.assertIs(self.check(program, "w", 2, "x", [], (0, 1), 0), True)
        self.assertIs(self.check(program, "w", 2, "x", [], (0, 1), 1), False)

    def test_an_again_gone_through_several_times(self):
        for size in (0, 1, 2, 7, 60):
            for n in (1, 2, 3, 4):
                self.assertIs(self.check(LIST, "w", n, "x", [1] * size), True)
                self.assertIs(self.check(LIST, "w", n, "x", [1] * size + [2]), False)
            self.assertIs(self.check(LIST, "w", 2, "x", [1] * size, (0, 2), 1), True)
            self.assertIs(self.check(LIST, "w", 2, "x", [1] * size, (0, 2), 0), False)
        # Built up by one ring, taken apart by another, built up again.
        program = one(
            MAKE, AGAIN, ("pair", "x", "v", "x", "y"), END, AGAIN, ("first", "x", "x"), END,
            AGAIN, ("pair", "x", "v", "y", "x"), END,
        )
        last = [spot[2:] for spot in spots(program)].index((10, False))
        for path in ([2] * 20 + [1] * 20, [1] * 20, [2], []):
            self.assertIs(self.check(program, "w", last, "x", path), True)
        self.assertIs(self.check(program, "w", last, "x", [1, 2]), False)

    def test_rounds_that_must_be_gone_through_for_what_is_within(self):
        # x has to be taken apart just as often as it was built up ahead of being put into y.
        program = one(
            MAKE, AGAIN, ("pair", "x", "u", "x", "x"), END, ("pair", "y", "v", "x", "z"), ("first", "x", "y"),
            AGAIN, ("second", "x", "x"), END, ("same", "z", "x"),
        )
        last = len(spots(program)) - 1
        numbers = {spot[2:]: n for n, spot in enumerate(spots(program))}
        for n in (numbers[(9, False)], numbers[(6, True)], last):
            for path in all_paths(3):
                self.check(program, "w", n, "x", path)
        self.assertIs(self.check(program, "w", numbers[(10, False)], "z", []), True)
        self.assertIs(self.check(program, "w", numbers[(10, False)], "z", [2, 1]), True)
        self.assertIs(self.check(program, "w", numbers[(10, False)], "y", [1, 2, 1, 1, 2]), True)
        self.assertIs(self.check(program, "w", numbers[(10, False)], "y", [2]), False)

    def test_rooms_made_in_parts_done_several_times(self):
        program = (("main", (do("p"), do("q"), do("p"))), ("p", (("pair", "x", "w", "x", "y"),)), ("q", (do("p"),)))
        last = [spot[:3] for spot in spots(program)].index(((), 0, 3))
        for path, found in (([], True), ([1], True), ([1, 1], True), ([1, 1, 1], False), ([2], False)):
            self.assertIs(self.check(program, "w", last, "x", path), found)
        for place, path, late in (((1, 1), [], 1), ((1, 0), [], 0), ((1, 0), [1], 1), ((2, 1), [1, 1], 1), ((2, 1), [1], 1)):
            self.assertIs(self.check(program, "w", last, "x", path, place, late), True)
            self.assertIs(self.check(program, "w", last, "x", path, place, 1 - late), False)

    def test_a_word_whose_pair_line_no_run_comes_to(self):
        program = (("main", (MAKE,)), ("lone", (("pair", "x", "lone", "y", "y"),)))
        self.assertIsNone(way_to(program, "lone", 1, "x", []))

    # Just where the holds take the path; all that it told is looked at.
    def test_just_what_the_holds_take(self):
        ways = {True: 0, False: 0}
        for number, program in enumerate(busy_programs(60)):
            rng = random.Random(number)
            word = rng.choice(named_words(program))
            place = rng.choice([None] + places_of(program))
            told = holds(program, word, place)
            for ask in range(60):
                seat = (rng.randint(0, 1), rng.randrange(len(spots(program))), rng.choice(named_boxes(program)))
                if rng.random() < 0.6 and told[0] + told[1]:
                    seat = rng.choice(told[0] + [move[0] for move in told[1]])
                path = rng.choice(all_paths(3))
                found = self.check(program, word, seat[1], seat[2], path, place, seat[0])
                self.assertIs(found, takes(told, seat, path), (program, word, place, seat, path))
                ways[found] += 1
        self.assertGreater(min(ways.values()), 400)

    def test_told_again_the_same_and_the_askers_own(self):
        kept = way_to(LIST, "w", 2, "x", [1, 1, 1])
        told = way_to(LIST, "w", 2, "x", [1, 1, 1])
        self.assertEqual(told, kept)
        told.clear()
        self.assertEqual(way_to(LIST, "w", 2, "x", [1, 1, 1]), kept)

    def test_within_seconds(self):
        straight = one(*[("pair", "a", "w", "a", "a")] * 24 + [("second", "a", "a")] * 24)
        for program in [straight, widest_program(), deepest_program()] + [leafy_program(k, 2 + k) for k in range(11)]:
            self.assertIs(is_program(program), True)
            word = named_words(program)[-1]
            place = places_of(program)[len(places_of(program)) // 2]
            told = holds(program, word, place)
            rng = random.Random(3)
            for size in (0, 3, 30):
                seat = rng.choice(told[0] + [move[0] for move in told[1]])
                path = drawn_path(rng, told, seat, size)
                began = time.monotonic()
                found = self.check(program, word, seat[1], seat[2], path, place, seat[0])
                self.assertLess(time.monotonic() - began, 8)
                self.assertIs(found, takes(told, seat, path))


# By moves of the reader, as long as there are any.
def drawn_path(rng, reader, seat, size):
    path = []
    while len(path) < size:
        moves = [move for move in reader[1] if move[0] == seat]
        if not moves:
            break
        move = rng.choice(moves)
        path.append(move[1])
        seat = move[2]
    return path


if __name__ == "__main__":
    unittest.main()
