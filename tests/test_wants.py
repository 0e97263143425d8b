import time
import unittest

from doneroom.programs import is_program
from doneroom.readers import takes
from doneroom.spots import spots
from doneroom.wants import wants
from helper import AGAIN, EITHER, END, OR, all_edges, all_paths, asked_by_wants, busy_programs, deepest_program, do
from helper import drawn_choices, entries_of, followed, is_well_formed, leafy_program, least_entries, making_programs
from helper import named_boxes, named_line, one, reader_with, run_of, widest_program

TELL = ("tell", "x")


def at(n, box):
    return (0, n, box)


class RuleTests(unittest.TestCase):
    # In a straight program spot n is gap n.
    def check(self, lines, ends, moves):
        self.assertEqual(wants(one(*lines)), (ends, moves))

    def test_tell(self):
        self.check([TELL], [at(0, "x")], [])
        self.check([], [], [])
        self.check([("none", "x"), ("same", "x", "y"), ("pair", "x", "w", "y", "z")], [], [])

    def test_boxes_that_get_nothing_new(self):
        for line in (("none", "y"), ("same", "y", "z"), ("pair", "y", "w", "z", "z"), ("pair", "y", "w", "x", "x")):
            self.check([line, TELL], [at(0, "x"), at(1, "x")], [])
        self.check([("tell", "y"), TELL], [at(0, "x"), at(0, "y"), at(1, "x")], [])
        for line in (("none", "x"), ("pair", "x", "w", "y", "z"), ("pair", "x", "w", "x", "x")):
            self.check([line, TELL], [at(1, "x")], [])

    def test_same(self):
        self.check([("same", "x", "y"), TELL], [at(0, "y"), at(1, "x")], [])
        self.check([("same", "y", "x"), TELL], [at(0, "x"), at(1, "x")], [])
        self.check([("same", "x", "x"), TELL], [at(0, "x"), at(1, "x")], [])

    def test_first_and_second(self):
        for line, letter in (("first", 1), ("second", 2)):
            self.check([(line, "x", "y")], [at(0, "y")], [])
            self.check([(line, "x", "y"), TELL], [at(0, "y"), at(1, "x")], [(at(0, "y"), letter, at(1, "x"))])
            self.check([(line, "x", "x"), TELL], [at(0, "x"), at(1, "x")], [(at(0, "x"), letter, at(1, "x"))])
            self.check([(line, "x", "y"), ("tell", "y")], [at(0, "y"), at(1, "y")], [])

    def test_first_of_a_first(self):
        moves = [(at(0, "x"), 1, at(1, "x")), (at(1, "x"), 2, at(2, "x"))]
        self.check([("first", "x", "x"), ("second", "x", "x"), TELL], [at(0, "x"), at(1, "x"), at(2, "x")], moves)

    def test_pair(self):
        pair = ("pair", "x", "w", "y", "z")
        moves = [(at(1, "x"), 1, at(2, "x"))]
        self.check([pair, ("first", "x", "x"), TELL], [at(0, "y"), at(1, "x"), at(2, "x")], moves)
        moves = [(at(1, "x"), 2, at(2, "x"))]
        self.check([pair, ("second", "x", "x"), TELL], [at(0, "z"), at(1, "x"), at(2, "x")], moves)
        self.check([("pair", "x", "w", "x", "x"), ("second", "x", "x"), TELL], [at(0, "x"), at(1, "x"), at(2, "x")], moves)

    def test_pair_of_what_is_taken_apart_twice(self):
        pair = ("pair", "x", "w", "y", "z")
        moves = [(at(0, "y"), 2, at(3, "x")), (at(1, "x"), 1, at(2, "x")), (at(2, "x"), 2, at(3, "x"))]
        ends = [at(0, "y"), at(1, "x"), at(2, "x"), at(3, "x")]
        self.check([pair, ("first", "x", "x"), ("second", "x", "x"), TELL], ends, moves)

    def test_an_either(self):
        program = one(EITHER, TELL, OR, ("tell", "y"), END)
        numbers = {spot[2]: n for n, spot in enumerate(spots(program))}
        ends = sorted([at(0, "x"), at(0, "y"), at(numbers[1], "x"), at(numbers[3], "y")])
        self.assertEqual(wants(program), (ends, []))

    def test_along_an_again(self):
        # Spots: 0 again, 1 head, 2 tell, 3 last gap, 4 first, 5 end.
        program = one(AGAIN, ("first", "x", "x"), END, TELL)
        ends = [at(n, "x") for n in (0, 1, 2, 4, 5)]
        moves = [(at(n, "x"), 1, at(5, "x")) for n in (0, 1, 4, 5)]
        self.assertEqual(wants(program), (ends, moves))
        # Spots: 0 again, 1 head, 2 last gap, 3 tell, 4 same, 5 end.
        program = one(AGAIN, TELL, ("same", "x", "y"), END)
        ends = [at(n, box) for n in (0, 1, 3) for box in "xy"] + [at(4, "y"), at(5, "x"), at(5, "y")]
        self.assertEqual(wants(program), (sorted(ends), []))
        # Spots: 0 again, 1 head, 2 second, 3 tell, 4 last gap, 5 pair, 6 end.
        program = one(AGAIN, ("pair", "x", "w", "y", "x"), END, ("second", "x", "x"), TELL)
        # At 5 what x holds goes within a room, of which one thing alone is taken apart: no path with a letter is wanted.
        ends = [at(n, "x") for n in (0, 1, 2, 3, 5, 6)]
        self.assertEqual(wants(program), (ends, [(at(n, "x"), 2, at(3, "x")) for n in (0, 1, 2, 6)]))

    def test_do_lines(self):
        program = (("main", (do("p"), TELL)), ("p", (("first", "x", "y"),)))
        # Spots: 0 do, 1 first, 2 its last gap, 3 tell, 4 last gap.
        ends = [at(0, "y"), at(1, "y"), at(2, "x"), at(3, "x")]
        self.assertEqual(wants(program), (ends, [(at(0, "y"), 1, at(2, "x")), (at(1, "y"), 1, at(2, "x"))]))

    def test_a_part_that_no_run_comes_to(self):
        program = (("main", (("none", "x"),)), ("lone", (TELL, ("first", "x", "y"))))
        self.assertEqual(wants(program), ([], []))


class LeastTests(unittest.TestCase):
    def test_as_told_anew(self):
        for program in making_programs(40) + busy_programs(60):
            expected = least_entries(lambda entries: asked_by_wants(program, entries))
            self.assertEqual(wants(program), reader_with(expected), program)

    def test_form(self):
        for program in busy_programs(40) + [widest_program(), deepest_program()]:
            ends, moves = wants(program)
            self.assertTrue(is_well_formed((ends, moves)))
            seats = ends + [move[0] for move in moves] + [move[2] for move in moves]
            self.assertLessEqual({seat[0] for seat in seats}, {0})

    def test_told_lists_are_the_askers_own(self):
        program = deepest_program()
        kept = wants(program)
        told = wants(program)
        self.assertTrue(told[0] and told[1])
        told[0].clear()
        told[1].reverse()
        self.assertEqual(wants(program), kept)


class RunTests(unittest.TestCase):
    def test_what_is_read_later_is_taken(self):
        for number, program in enumerate(busy_programs(80)):
            told = wants(program)
            numbers = {spot: n for n, spot in enumerate(spots(program))}
            run = run_of(program, drawn_choices(number, 8))[:30]
            for begin in range(len(run) - 1):
                for box in named_boxes(program):
                    for path in all_paths(3):
                        if is_read_along(program, run[begin:], box, tuple(path)):
                            self.assertTrue(takes(told, (0, numbers[run[begin]], box), path), (program, run[begin], path))

    # What is taken is read along some run on: searched for by what comes of the path, the paths kept short.
    def test_what_is_taken_is_read_later(self):
        taken = 0
        for program in busy_programs(80):
            told = wants(program)
            for n, spot in enumerate(spots(program)):
                for box in named_boxes(program):
                    for path in all_paths(3):
                        if takes(told, (0, n, box), path):
                            taken += 1
                            self.assertTrue(can_be_read(program, spot, box, tuple(path), 9), (program, spot, box, path))
                        else:
                            self.assertFalse(can_be_read(program, spot, box, tuple(path), 5), (program, spot, box, path))
        self.assertGreater(taken, 500)


def reads(line, box, path):
    return line[0] in ("first", "second", "tell") and line[-1] == box and path == ()


def is_read_along(program, run, box, path):
    now = [(box, path)]
    for spot in run[:-1]:
        line = named_line(program, spot)
        if any(reads(line, *thing) for thing in now):
            return True
        now = [later for thing in now for later in followed(line, *thing)]
    return False


def can_be_read(program, spot, box, path, most):
    edges = all_edges(program)
    waiting = [(spot, box, path)]
    seen = set(waiting)
    while waiting:
        spot, box, path = waiting.pop()
        line = named_line(program, spot)
        if reads(line, box, path):
            return True
        for later in edges[spot]:
            for thing in followed(line, box, path):
                state = (later,) + thing
                if len(thing[1]) <= most and state not in seen:
                    seen.add(state)
                    waiting.append(state)
    return False


class BoundTests(unittest.TestCase):
    def test_within_seconds(self):
        straight = one(*[("first", "x", "x"), ("pair", "y", "w", "x", "y"), ("second", "x", "y")] * 16)
        programs = [widest_program(), deepest_program(), straight]
        for program in programs + [leafy_program(number, 2 + number) for number in range(11)]:
            self.assertIs(is_program(program), True)
            began = time.monotonic()
            told = wants(program)
            self.assertLess(time.monotonic() - began, 5)
            self.assertLessEqual(asked_by_wants(program, entries_of(told)), entries_of(told))
            self.assertTrue(takes(told, told[0][-1], []))


if __name__ == "__main__":
    unittest.main()
