import copy
import random
import time
import unittest

from doneroom.counts import counted
from doneroom.manners import all_done, lean
from helper import AGAIN, EITHER, END, IDLE, MAKE, OR, OTHER, TELL, all_runs, bound_programs, busy_programs, do
from helper import drawn_choices, drawn_manner, making_programs, one, rooms_by, run_of


# Told anew from the steps at which each room is made and given back.
def counted_anew(program, manner, run):
    rooms = rooms_by(program, manner, run)
    told = []
    for step in range(len(run)):
        made = [room for room in rooms if room[1] <= step]
        ahead = [room for room in made if room[2] is None or room[2] >= step]
        behind = [room for room in made if room[2] is None or room[2] > step]
        told.append((len(ahead), len(behind)))
    return told


class CountTests(unittest.TestCase):
    def check(self, program, manner, choices, numbers):
        self.assertEqual(counted(program, manner, run_of(program, choices)), numbers)

    def test_the_run_of_the_first_spot_alone(self):
        self.assertEqual(counted(one(MAKE), [], [((), 0, 0, False)]), [(0, 0)])
        self.assertEqual(counted(one(MAKE), [("w", (0, 0))], [((), 0, 0, False)]), [(0, 0)])
        self.assertEqual(counted(one(), [], run_of(one())), [(0, 0)])

    def test_without_pairs(self):
        self.check(one(MAKE, MAKE, OTHER, TELL), [], [], [(0, 0), (1, 1), (2, 2), (3, 3), (3, 3)])

    def test_a_giving_at_the_spot_behind_the_making(self):
        self.check(one(MAKE, IDLE), [("w", (0, 1))], [], [(0, 0), (1, 0), (0, 0)])

    def test_a_giving_later(self):
        self.check(one(MAKE, IDLE, IDLE, IDLE), [("w", (0, 3))], [], [(0, 0), (1, 1), (1, 1), (1, 0), (0, 0)])

    def test_all_rooms_of_the_word(self):
        self.check(one(MAKE, MAKE, MAKE, IDLE), [("w", (0, 3))], [], [(0, 0), (1, 1), (2, 2), (3, 0), (0, 0)])

    def test_no_room_of_another_word(self):
        self.check(one(MAKE, OTHER, IDLE), [("w", (0, 2))], [], [(0, 0), (1, 1), (2, 1), (1, 1)])

    def test_several_words_at_one_place(self):
        manner = [("v", (0, 3)), ("w", (0, 3))]
        self.check(one(MAKE, OTHER, OTHER, IDLE), manner, [], [(0, 0), (1, 1), (2, 2), (3, 0), (0, 0)])

    def test_places_come_to_with_no_room_in_use(self):
        manner = [("w", (0, gap)) for gap in range(4)]
        self.check(one(IDLE, MAKE, IDLE), manner, [], [(0, 0), (0, 0), (1, 0), (0, 0)])

    def test_made_anew_behind_a_giving(self):
        self.check(one(MAKE, MAKE, MAKE), [("w", (0, 2))], [], [(0, 0), (1, 1), (2, 0), (1, 1)])

    def test_rooms_that_no_box_holds(self):
        self.check(one(MAKE, ("none", "x"), MAKE, MAKE), [], [], [(0, 0), (1, 1), (1, 1), (2, 2), (3, 3)])
        self.check(one(MAKE, ("none", "x"), IDLE), [("w", (0, 3))], [], [(0, 0), (1, 1), (1, 1), (1, 0)])

    def test_rooms_that_a_box_goes_on_holding(self):
        self.check(one(MAKE, TELL, TELL), [("w", (0, 1))], [], [(0, 0), (1, 0), (0, 0), (0, 0)])

    def test_in_an_again(self):
        # Steps: again, head, pair, none, end, head, pair, none, end, head, last gap.
        program = one(AGAIN, MAKE, IDLE, END)
        numbers = [(0, 0), (0, 0), (0, 0), (1, 1), (1, 0), (0, 0), (0, 0), (1, 1), (1, 0), (0, 0), (0, 0)]
        self.check(program, [("w", (0, 3))], [1, 1, 0], numbers)
        numbers = [(0, 0), (0, 0), (0, 0), (1, 1), (1, 1), (1, 1), (1, 0), (1, 1), (1, 1), (1, 1), (1, 1)]
        self.check(program, [("w", (0, 1))], [1, 1, 0], numbers)
        numbers = [(0, 0), (0, 0), (0, 0), (1, 1), (1, 1), (1, 1), (1, 1), (2, 2), (2, 2), (2, 2), (2, 0)]
        self.check(program, [("w", (0, 4))], [1, 1, 0], numbers)

    # The head of the again has no place, though the again's own gap has its numbers.
    def test_heads(self):
        program = one(MAKE, AGAIN, MAKE, END)
        # Steps: pair, again, head, pair, end, head, pair, end, head.
        numbers = [(0, 0), (1, 0), (0, 0), (0, 0), (1, 1), (1, 1), (1, 1), (2, 2), (2, 2)]
        self.check(program, [("w", (0, 1))], [1, 1], numbers)

    def test_either(self):
        program = one(MAKE, EITHER, OTHER, OR, MAKE, END)
        manner = [("w", (0, 2)), ("w", (0, 6))]
        self.check(program, manner, [0], [(0, 0), (1, 1), (1, 0), (1, 1), (1, 1)])
        self.check(program, manner, [1], [(0, 0), (1, 1), (1, 1), (2, 2), (2, 0)])

    def test_parts_done_twice(self):
        program = (("main", (do("p"), MAKE, do("p"))), ("p", (OTHER,)))
        # Steps: do, pair, last gap, pair, do, pair, last gap, last gap.
        self.check(program, [("v", (1, 1))], [], [(0, 0), (0, 0), (1, 0), (0, 0), (1, 1), (1, 1), (2, 1), (1, 1)])
        self.check(program, [("v", (1, 0))], [], [(0, 0), (0, 0), (1, 1), (1, 1), (2, 2), (2, 1), (2, 2), (2, 2)])

    def test_a_run_that_ends_midway(self):
        program = one(MAKE, IDLE, OTHER)
        self.assertEqual(counted(program, [("w", (0, 1))], run_of(program)[:2]), [(0, 0), (1, 0)])
        self.assertEqual(counted(program, [], run_of(program)[:3]), [(0, 0), (1, 1), (1, 1)])

    def test_told_anew(self):
        for number, program in enumerate(busy_programs(50)):
            rng = random.Random(number)
            for manner in ([], lean(program), drawn_manner(rng, program), drawn_manner(rng, program, 0.1)):
                for run in all_runs(program, 10):
                    self.assertEqual(counted(program, manner, run), counted_anew(program, manner, run))
        for number, program in enumerate(making_programs(50)):
            manner = drawn_manner(random.Random(number), program, 0.15)
            run = run_of(program, drawn_choices(number, 30))
            self.assertEqual(counted(program, manner, run), counted_anew(program, manner, run))

    def test_kinds_and_own_lists(self):
        program, manner = one(MAKE, IDLE), [("w", (0, 1))]
        run = run_of(program)
        kept = copy.deepcopy((manner, run))
        told = counted(program, manner, run)
        self.assertEqual((type(told), {type(pair) for pair in told}), (list, {tuple}))
        self.assertEqual({type(number) for pair in told for number in pair}, {int})
        told.clear()
        self.assertEqual((manner, run), kept)
        self.assertEqual(len(counted(program, manner, run)), 3)

    def test_at_the_bounds(self):
        for number, program in enumerate(bound_programs()):
            run = run_of(program, drawn_choices(number, 60))
            for manner in (all_done(program), lean(program), drawn_manner(random.Random(number), program)):
                began = time.monotonic()
                self.assertEqual(counted(program, manner, run), counted_anew(program, manner, run))
                self.assertLess(time.monotonic() - began, 8)


if __name__ == "__main__":
    unittest.main()
