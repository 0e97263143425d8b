import unittest

from doneroom.runs import choices_of, is_run, run_by
from doneroom.spots import spots
from helper import AGAIN, EITHER, END, OR, all_edges, do, drawn_choices, good_programs, one

TELL = ("tell", "x")
STRAIGHT = (("main", (TELL, do("sub"), TELL)), ("sub", (TELL,)))
#                    0      1      2     3       4     5   6     7    8
CHOOSY = (("main", (AGAIN, do("sub"), END, EITHER, TELL, OR, TELL, END, TELL)), ("sub", (EITHER, OR, END)))
SUB = ((0, 1),)


def own(*stops):
    return [((), 0, k, head) for k, head in stops]


class RunByTests(unittest.TestCase):
    def check(self, program, choices, run, used):
        with self.subTest(choices=choices):
            self.assertEqual(run_by(program, choices), (run, used))
            self.assertEqual(choices_of(program, run), choices[:used])

    def test_no_choices_in_the_program(self):
        run = own((0, False), (1, False)) + [(SUB, 1, 0, False), (SUB, 1, 1, False)] + own((2, False), (3, False))
        self.check(STRAIGHT, [], run, 0)
        self.check(STRAIGHT, [0, 1, 1], run, 0)

    def test_no_lines(self):
        self.check(one(), [], [((), 0, 0, False)], 0)
        self.check(one(), [1], [((), 0, 0, False)], 0)

    def test_no_choice_is_left(self):
        self.check(CHOOSY, [], own((0, False), (0, True)), 0)
        self.check(CHOOSY, [0], own((0, False), (0, True), (3, False)), 1)
        self.check(CHOOSY, [1], own((0, False), (0, True), (1, False)) + [(SUB, 1, 0, False)], 1)
        self.check(one(EITHER, OR, END), [], own((0, False)), 0)

    def test_all_choices_are_used(self):
        first = own((0, False), (0, True), (3, False), (4, False), (5, False), (8, False), (9, False))
        second = own((0, False), (0, True), (3, False), (6, False), (7, False), (8, False), (9, False))
        self.check(CHOOSY, [0, 0], first, 2)
        self.check(CHOOSY, [0, 1], second, 2)

    def test_choices_left_over(self):
        run = own((0, False), (0, True), (3, False), (6, False), (7, False), (8, False), (9, False))
        self.check(CHOOSY, [0, 1, 1, 0, 1], run, 2)

    def test_round_and_round(self):
        run = own((0, False), (0, True), (1, False)) + [(SUB, 1, 0, False), (SUB, 1, 1, False), (SUB, 1, 3, False)]
        run += own((2, False), (0, True), (1, False)) + [(SUB, 1, 0, False), (SUB, 1, 2, False), (SUB, 1, 3, False)]
        run += own((2, False), (0, True))
        self.check(CHOOSY, [1, 0, 1, 1], run, 4)

    def test_as_told_anew(self):
        for number, program in enumerate(good_programs()):
            edges = all_edges(program)
            for count in (0, 1, 2, 3, 9, 60):
                choices = drawn_choices(number * 100 + count, count)
                kept = list(choices)
                told = run_by(program, choices)
                self.assertEqual(choices, kept)
                self.assertEqual(told, walked(edges, kept))
                self.assertEqual(choices_of(program, told[0]), kept[:told[1]])
                self.assertIs(is_run(program, told[0]), True)

    def test_kinds(self):
        told = run_by(CHOOSY, [1, 1, 0, 1])
        self.assertEqual([type(told), type(told[0]), type(told[1])], [tuple, list, int])
        choices = choices_of(CHOOSY, told[0])
        self.assertEqual([type(choices)] + [type(choice) for choice in choices], [list, int, int, int, int])

    def test_told_lists_are_the_askers_own(self):
        choices = [1, 1, 0, 1]
        run = run_by(CHOOSY, choices)[0]
        kept = list(run)
        run.pop()
        self.assertEqual(run_by(CHOOSY, choices)[0], kept)
        told = choices_of(CHOOSY, kept)
        told.append(1)
        self.assertEqual(choices_of(CHOOSY, kept), choices)
        self.assertIsNot(choices_of(CHOOSY, kept), choices)


# Told anew from the words of [12].
def walked(edges, choices):
    run = [((), 0, 0, False)]
    left = list(choices)
    while edges[run[-1]]:
        later = edges[run[-1]]
        if len(later) == 1:
            run.append(later[0])
        elif left:
            run.append(later[left.pop(0)])
        else:
            break
    return (run, len(choices) - len(left))


class ChoicesTests(unittest.TestCase):
    def test_of_a_run_that_is_cut_off(self):
        run = run_by(CHOOSY, [1, 0, 1, 1, 0, 1])[0]
        edges = all_edges(CHOOSY)
        for count in range(1, len(run) + 1):
            met = [spot for spot in run[:count - 1] if len(edges[spot]) == 2]
            self.assertEqual(choices_of(CHOOSY, run[:count]), [1, 0, 1, 1, 0, 1][:len(met)])

    def test_the_last_spots_choice_is_not_made(self):
        self.assertEqual(choices_of(CHOOSY, own((0, False), (0, True))), [])
        self.assertEqual(choices_of(CHOOSY, own((0, False))), [])

    def test_the_run_stays(self):
        run = run_by(CHOOSY, [1, 0, 1, 1])[0]
        kept = list(run)
        choices_of(CHOOSY, run)
        is_run(CHOOSY, run)
        self.assertEqual(run, kept)


class IsRunTests(unittest.TestCase):
    def check(self, program, run, told):
        self.assertIs(is_run(program, run), told, run)

    def test_runs_cut_off_at_any_step(self):
        for choices in ([], [0, 0], [0, 1], [1, 0, 0, 1], [1, 1, 1, 0, 0, 0]):
            run = run_by(CHOOSY, choices)[0]
            for count in range(1, len(run) + 1):
                self.check(CHOOSY, run[:count], True)

    def test_no_spots(self):
        self.check(CHOOSY, [], False)
        self.check(one(), [], False)

    def test_the_first_spot_does_not_stand_first(self):
        for spot in spots(CHOOSY):
            self.check(CHOOSY, [spot], spot == ((), 0, 0, False))
        run = run_by(CHOOSY, [0, 0])[0]
        for count in range(1, len(run)):
            self.check(CHOOSY, run[count:], False)
        self.check(CHOOSY, run[1:2] + run, False)

    def test_left_out_doubled_exchanged_put_behind(self):
        program = CHOOSY
        edges = all_edges(program)
        run = run_by(program, [1, 0, 1, 1, 0, 1])[0]
        for k in range(len(run)):
            self.check(program, run[:k] + run[k + 1:], follows(edges, run[:k] + run[k + 1:]))
            self.check(program, run[:k + 1] + run[k:], False)
            for spot in spots(program):
                changed = run[:k] + [spot] + run[k + 1:]
                self.check(program, changed, follows(edges, changed))
                self.check(program, run[:k + 1] + [spot], follows(edges, run[:k + 1] + [spot]))
        for spot in spots(program):
            self.check(program, run + [spot], False)

    def test_a_spot_left_out(self):
        run = run_by(STRAIGHT, [])[0]
        for k in range(len(run) - 1):
            self.check(STRAIGHT, run[:k] + run[k + 1:], False)

    def test_the_way_counts(self):
        program = (("main", (do("sub"), do("sub"))), ("sub", (TELL,)))
        good = [((), 0, 0, False), (((0, 0),), 1, 0, False), (((0, 0),), 1, 1, False), ((), 0, 1, False)]
        self.check(program, good, True)
        self.check(program, good[:2] + [(((0, 1),), 1, 1, False)], False)
        self.check(program, good[:3] + [((), 0, 2, False)], False)
        self.check(program, good[:1] + [(((0, 1),), 1, 0, False)], False)


def follows(edges, run):
    if run[:1] != [((), 0, 0, False)]:
        return False
    return all(later in edges[spot] for spot, later in zip(run, run[1:]))


if __name__ == "__main__":
    unittest.main()
