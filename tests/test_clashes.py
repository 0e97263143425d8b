import copy
import random
import time
import unittest

from doneroom.clashes import clashes
from doneroom.manners import all_done, lean
from doneroom.spots import spots
from helper import AGAIN, EITHER, END, IDLE, MAKE, OR, OTHER, TELL, THIRD, all_runs, bound_programs, busy_programs
from helper import clashes_anew, do, drawn_manner, making_numbers, making_programs, one, rooms_by


class ClashTests(unittest.TestCase):
    def check(self, program, manner, pairs):
        told = clashes(program, manner)
        self.assertEqual(told, pairs)
        self.assertEqual(told, clashes_anew(program, manner))
        self.assertEqual((type(told), {type(pair) for pair in told} | {tuple}), (list, {tuple}))

    def test_no_making_spot(self):
        self.check(one(), [], [])
        self.check(one(TELL, IDLE), [], [])
        self.check((("main", (TELL,)), ("lone", (MAKE, MAKE))), [], [])

    def test_one_by_itself(self):
        self.check(one(MAKE), [], [])
        self.check(one(AGAIN, MAKE, END), [], [])

    def test_nothing_given_back(self):
        self.check(one(MAKE, IDLE, OTHER), [], [(0, 2)])
        self.check(one(MAKE, MAKE, OTHER), [], [(0, 1), (0, 2), (1, 2)])

    def test_given_back_in_between(self):
        self.check(one(MAKE, IDLE, OTHER), [("w", (0, 1))], [])
        self.check(one(MAKE, IDLE, OTHER), [("w", (0, 2))], [])
        self.check(one(MAKE, IDLE, OTHER), [("v", (0, 1)), ("v", (0, 2))], [(0, 2)])

    def test_given_back_at_the_spot_behind_the_other_making(self):
        self.check(one(MAKE, IDLE, OTHER), [("w", (0, 3))], [(0, 2)])
        self.check(one(MAKE, OTHER), [("v", (0, 2)), ("w", (0, 2))], [(0, 1)])

    def test_three_in_a_row(self):
        program = one(MAKE, OTHER, THIRD)
        self.check(program, [("v", (0, 3)), ("w", (0, 2))], [(0, 1), (1, 2)])
        self.check(program, [("v", (0, 2)), ("w", (0, 2))], [(0, 1)])

    def test_making_spots_that_no_run_joins(self):
        program = one(EITHER, MAKE, OR, OTHER, END, THIRD)
        # The spots: either 0, pair 1, or 2, pair 3 behind the end, last gap 4, pair 5 of the second branch, end 6.
        self.check(program, [], [(1, 3), (3, 5)])

    def test_joined_by_rounds_alone(self):
        program = one(AGAIN, EITHER, MAKE, OR, OTHER, END, END)
        pairs = clashes_anew(program, [])
        self.assertEqual(len(pairs), 1)
        self.check(program, [], pairs)
        self.check(program, [("w", (0, 1))], pairs)
        self.check(program, [("v", (0, 1)), ("w", (0, 1))], [])

    # The later one in the text may be made ahead of the other one.
    def test_each_one_first(self):
        program = one(AGAIN, MAKE, IDLE, OTHER, IDLE, END)
        n, m = making_numbers(program)
        self.check(program, [("w", (0, 2))], [(n, m)])
        self.check(program, [("v", (0, 4))], [(n, m)])
        self.check(program, [("v", (0, 4)), ("w", (0, 2))], [])

    def test_a_line_of_a_part_done_twice(self):
        program = (("main", (do("p"), do("p"))), ("p", (MAKE,)))
        # do 0, pair 1, last gap 2, do 3, pair 4.
        self.check(program, [], [(1, 4)])
        self.check(program, [("w", (0, 1))], [])
        self.check(program, [("w", (1, 1))], [])
        self.check(program, [("w", (0, 2))], [(1, 4)])

    def test_on_some_run(self):
        for number, program in enumerate(busy_programs(40)):
            manner = drawn_manner(random.Random(number), program)
            told = clashes(program, manner)
            for run in all_runs(program, 11)[::2]:
                for pair in clashing_at_the_end(program, manner, run):
                    self.assertIn(pair, told)

    def test_through_all_that_runs_can_come_to(self):
        seen = 0
        for number, program in enumerate(busy_programs(150) + making_programs(40)):
            if len(making_numbers(program)) > 9:
                continue
            rng = random.Random(number)
            for manner in (lean(program), [], drawn_manner(rng, program), drawn_manner(rng, program, 0.6)):
                pairs = clashes_anew(program, manner)
                self.check(program, manner, pairs)
                seen += 0 < len(pairs) < len(making_numbers(program)) * (len(making_numbers(program)) - 1) // 2
        self.assertGreater(seen, 60)

    def test_nothing_handed_in_is_changed_and_lists_are_new(self):
        program, manner = one(MAKE, IDLE, OTHER), [("w", (0, 3))]
        kept = copy.deepcopy(manner)
        clashes(program, manner).clear()
        self.assertEqual(manner, kept)
        self.assertEqual(clashes(program, manner), [(0, 2)])

    def test_at_the_bounds(self):
        for number, program in enumerate(bound_programs()):
            for manner in (all_done(program), lean(program), [], drawn_manner(random.Random(number), program, 0.2)):
                began = time.monotonic()
                told = clashes(program, manner)
                self.assertLess(time.monotonic() - began, 5)
                self.assertEqual(told, sorted(set(told)))
                makers = making_numbers(program)
                self.assertTrue(all(n < m and n in makers and m in makers for n, m in told))


# The pairs of making spots of which rooms are in use at the run's last step, ahead of the givings.
def clashing_at_the_end(program, manner, run):
    listed = spots(program)
    last = len(run) - 1
    rooms = rooms_by(program, manner, run)
    in_use = {listed.index(run[made - 1]) for word, made, given in rooms if given is None or given == last}
    return [(n, m) for n in in_use for m in in_use if n < m]


if __name__ == "__main__":
    unittest.main()
