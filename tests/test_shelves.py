import copy
import random
import time
import unittest

from doneroom.manners import lean
from doneroom.most import most
from doneroom.puts import put_in
from doneroom.runs import choices_of
from doneroom.shelves import on_shelf
from helper import AGAIN, EITHER, END, IDLE, MAKE, OR, OTHER, TELL, Room, back, bound_programs, busy_programs, do
from helper import drawn_choices, drawn_manner, drawn_programs, named_boxes, named_line, one, plain_run, run_of

W, V = back("w"), back("v")


# Told anew from the words of [32]; a room's step is where it was made, its number stands beside it.
def shelf_anew(program, choices, size):
    run = run_of(program, choices)
    boxes = dict.fromkeys(named_boxes(program))
    numbers, told, made, gone = [], [], [], []
    for step in range(len(run) - 1):
        line = named_line(program, run[step])
        new = None
        if line[0] in ("first", "second", "tell"):
            room = boxes[line[-1]]
            if room in gone:
                return ("gone", step, told, numbers)
            if line[0] == "tell":
                told.append("-" if room is None else room.word)
            elif room is not None:
                new = room.inner[1 if line[0] == "first" else 2]
        elif line[0] == "same":
            new = boxes[line[2]]
        elif line[0] == "pair":
            in_use = {number for room, number in zip(made, numbers) if room not in gone}
            free = [number for number in range(min(size, len(in_use) + 1)) if number not in in_use]
            if not free:
                return ("full", step, told, numbers)
            new = Room(line[2], boxes[line[3]], boxes[line[4]], step)
            made.append(new)
            numbers.append(free[0])
        elif line[0] == "back":
            gone += [room for room in made if room.word == line[1] and room not in gone]
        if line[0] in ("pair", "first", "second", "same", "none"):
            boxes[line[1]] = new
    return ("told", len(run) - 1, told, numbers)


class ShelfTests(unittest.TestCase):
    def check(self, program, choices, size, *told):
        self.assertEqual(on_shelf(program, choices, size), told)
        self.assertEqual(shelf_anew(program, choices, size), told)

    def test_told(self):
        self.check(one(), [], 0, "told", 0, [], [])
        self.check(one(IDLE, TELL), [], 0, "told", 2, ["-"], [])
        self.check(one(MAKE, TELL, ("tell", "y"), TELL), [], 1, "told", 4, ["w", "-", "w"], [0])
        self.check(one(MAKE, OTHER, ("tell", "z"), TELL), [], 2, "told", 4, ["v", "w"], [0, 1])

    def test_full(self):
        self.check(one(MAKE), [], 0, "full", 0, [], [])
        self.check(one(TELL, MAKE), [], 0, "full", 1, ["-"], [])
        self.check(one(MAKE, TELL, MAKE, TELL), [], 1, "full", 2, ["w"], [0])
        self.check(one(MAKE, MAKE, OTHER), [], 2, "full", 2, [], [0, 1])
        self.check(one(MAKE, MAKE, OTHER), [], 3, "told", 3, [], [0, 1, 2])
        # Whether a box goes on holding a room changes nothing.
        self.check(one(MAKE, ("none", "x"), MAKE), [], 1, "full", 2, [], [0])

    def test_gone_by_each_line_that_reads(self):
        for line in (TELL, ("first", "z", "x"), ("second", "z", "x"), ("first", "x", "x")):
            self.check(one(MAKE, W, line, IDLE), [], 3, "gone", 2, [], [0])
            self.check(one(MAKE, TELL, TELL, W, line), [], 3, "gone", 4, ["w", "w"], [0])

    def test_no_reading(self):
        copies = (("same", "z", "x"), ("pair", "z", "v", "x", "x"), ("pair", "x", "v", "x", "x"), ("none", "x"))
        for line in copies + (("tell", "y"), ("first", "z", "y"), OTHER):
            told = ["-"] if line[0] == "tell" else []
            made = [0, 0] if line[0] == "pair" else [0]
            self.check(one(MAKE, W, line), [], 3, "told", 3, told, made)

    def test_read_through_copies_and_pairs(self):
        self.check(one(MAKE, W, ("same", "z", "x"), ("tell", "z")), [], 3, "gone", 3, [], [0])
        self.check(one(MAKE, ("same", "z", "x"), W, ("tell", "z")), [], 3, "gone", 3, [], [0])
        outer = ("pair", "z", "v", "x", "y")
        self.check(one(MAKE, outer, W, ("tell", "z"), ("first", "x", "z")), [], 3, "told", 5, ["v"], [0, 1])
        self.check(one(MAKE, outer, W, ("first", "x", "z"), TELL), [], 3, "gone", 4, [], [0, 1])
        self.check(one(MAKE, W, outer, ("first", "x", "z"), TELL), [], 3, "gone", 4, [], [0, 0])
        self.check(one(MAKE, W, outer, ("second", "x", "z"), TELL), [], 3, "told", 5, ["-"], [0, 0])
        # The outer room is gone, the inner one isn't.
        self.check(one(MAKE, outer, V, TELL, ("first", "x", "z")), [], 3, "gone", 4, ["w"], [0, 1])

    def test_the_number_taken_anew(self):
        program = one(MAKE, W, OTHER, ("tell", "z"), TELL)
        self.check(program, [], 1, "gone", 4, ["v"], [0, 0])
        program = one(MAKE, ("same", "z", "x"), W, MAKE, TELL, ("tell", "z"))
        self.check(program, [], 1, "gone", 5, ["w"], [0, 0])

    def test_the_least_free_number(self):
        program = one(OTHER, MAKE, OTHER, MAKE, W, OTHER, OTHER, OTHER)
        self.check(program, [], 9, "told", 8, [], [0, 1, 2, 3, 1, 3, 4])
        self.check(program, [], 5, "told", 8, [], [0, 1, 2, 3, 1, 3, 4])
        self.check(program, [], 4, "full", 7, [], [0, 1, 2, 3, 1, 3])
        program = one(MAKE, OTHER, MAKE, V, W, OTHER, MAKE, OTHER)
        self.check(program, [], 3, "told", 8, [], [0, 1, 2, 0, 1, 2])
        program = one(MAKE, OTHER, MAKE, W, V, OTHER, MAKE, OTHER)
        self.check(program, [], 3, "told", 8, [], [0, 1, 2, 0, 1, 2])

    def test_back_lines(self):
        # Of several rooms, of none, twice, of a word that no pair line has.
        self.check(one(MAKE, MAKE, OTHER, W, MAKE, MAKE), [], 3, "told", 6, [], [0, 1, 2, 0, 1])
        self.check(one(W, MAKE, W, W, MAKE, back("q"), TELL), [], 1, "told", 7, ["w"], [0, 0])
        self.check(one(MAKE, V, back("q"), TELL), [], 1, "told", 4, ["w"], [0])
        self.check(one(MAKE, W, W, MAKE, MAKE), [], 1, "full", 4, [], [0, 0])

    def test_choices_left_over_and_too_few(self):
        program = one(MAKE, EITHER, TELL, OR, IDLE, END, TELL)
        self.check(program, [0, 1, 1, 0], 1, "told", 5, ["w", "w"], [0])
        self.check(program, [1], 1, "told", 5, ["w"], [0])
        self.check(program, [], 1, "told", 1, [], [0])
        program = one(AGAIN, MAKE, END, TELL)
        self.check(program, [1, 1], 5, "told", 7, [], [0, 1])
        self.check(program, [1, 1, 0], 5, "told", 9, ["w"], [0, 1])
        self.check(program, [1, 1, 0], 1, "full", 5, [], [0])
        self.check(program, [0, 1, 1], 0, "told", 3, ["-"], [])

    def test_back_lines_in_agains(self):
        program = one(AGAIN, MAKE, TELL, W, END, TELL)
        self.check(program, [1, 1, 1], 1, "told", 16, ["w"] * 3, [0, 0, 0])
        self.check(program, [1, 1, 0], 1, "gone", 12, ["w"] * 2, [0, 0])
        self.check(program, [0], 0, "told", 3, ["-"], [])
        program = one(AGAIN, W, MAKE, TELL, END, TELL)
        self.check(program, [1, 1, 0], 1, "told", 13, ["w"] * 3, [0, 0])

    def test_parts(self):
        program = (("main", (do("p"), do("p"), TELL)), ("p", (W, MAKE)))
        self.check(program, [], 1, "told", 9, ["w"], [0, 0])
        program = (("main", (do("p"), TELL, do("p"), TELL)), ("p", (MAKE, W)))
        self.check(program, [], 1, "gone", 4, [], [0])

    def test_a_great_shelf(self):
        self.check(one(MAKE, MAKE), [], 9999, "told", 2, [], [0, 1])
        self.assertEqual(on_shelf(one(MAKE), [], 10 ** 12), ("told", 1, [], [0]))

    def test_told_anew(self):
        seen = []
        for number, program in enumerate(drawn_programs(150)):
            for draw in range(4):
                choices = drawn_choices(4 * number + draw, 12)
                size = draw + number % 2
                told = on_shelf(program, choices, size)
                self.assertEqual(told, shelf_anew(program, choices, size), (program, choices, size))
                seen.append(told[0])
        for number, program in enumerate(busy_programs(200)):
            rng = random.Random(number)
            given = put_in(program, drawn_manner(rng, program, 0.15))
            for draw in range(4):
                choices = drawn_choices(4 * number + draw, 12)
                told = on_shelf(given, choices, rng.randint(0, 4))
                seen.append(told[0])
                size = rng.randint(0, 4)
                self.assertEqual(on_shelf(given, choices, size), shelf_anew(given, choices, size))
        self.assertGreater(min(seen.count("told"), seen.count("gone"), seen.count("full")), 40)


class LeanShelfTests(unittest.TestCase):
    def test_on_just_the_most_rooms(self):
        checked = 0
        for number, program in enumerate(busy_programs(150)):
            manner = lean(program)
            told = most(program, manner)
            if told[0] == "grows":
                continue
            given = put_in(program, manner)
            for draw in range(6):
                choices = drawn_choices(6 * number + draw, 14)
                answer = on_shelf(given, choices, told[1])
                self.assertEqual(answer[0], "told")
                self.assertEqual(answer[2], plain_run(program, run_of(program, choices))[2])
                self.assertEqual(answer[2], on_shelf(program, choices, 99)[2])
                self.assertTrue(all(0 <= room < told[1] for room in answer[3]))
            if told[1] > 0:
                self.assertEqual(on_shelf(given, choices_of(program, told[2]), told[1] - 1)[0], "full")
                self.assertEqual(on_shelf(given, choices_of(program, told[2]), told[1])[0], "told")
                checked += 1
        self.assertGreater(checked, 60)

    # One pair too many, and some run reads what was given back.
    def test_by_a_manner_that_is_not_safe(self):
        program = one(MAKE, AGAIN, TELL, END)
        given = put_in(program, [("w", (0, 3))])
        self.assertEqual(on_shelf(given, [1, 0], 1)[0], "told")
        self.assertEqual(on_shelf(given, [1, 1, 0], 1)[0], "gone")

    def test_rooms_that_grow_fill_any_shelf(self):
        program = one(AGAIN, MAKE, END)
        self.assertEqual(most(program, [])[0], "grows")
        for size in (0, 1, 7, 40):
            self.assertEqual(on_shelf(program, [1] * (size + 1), size)[0], "full")


class OwnTests(unittest.TestCase):
    def test_nothing_handed_in_is_changed_and_lists_are_new(self):
        program, choices = one(MAKE, EITHER, TELL, OR, END), [0, 1]
        kept = copy.deepcopy(choices)
        for size in (0, 1):
            told = on_shelf(program, choices, size)
            again = on_shelf(program, choices, size)
            self.assertEqual((type(told), type(told[2]), type(told[3])), (tuple, list, list))
            self.assertIsNot(told[2], told[3])
            told[2].append("q")
            told[3].append(7)
            self.assertEqual(on_shelf(program, choices, size), again)
        self.assertEqual(choices, kept)

    def test_at_the_bounds(self):
        for number, program in enumerate(bound_programs()):
            given = put_in(program, lean(program))
            for size in (3, 500):
                began = time.monotonic()
                told = on_shelf(given, drawn_choices(number, 400), size)
                self.assertIn(told[0], ("told", "full"))
                self.assertLess(time.monotonic() - began, 5)
            self.assertEqual(on_shelf(given, drawn_choices(number, 60), 9), shelf_anew(given, drawn_choices(number, 60), 9))


if __name__ == "__main__":
    unittest.main()
