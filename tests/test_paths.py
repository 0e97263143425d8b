import copy
import unittest

from doneroom.paths import led, paths_to
from helper import all_paths, deepest_program, drawn_choices, good_programs, lead, one, plain_run, run_of
from helper import widest_program

# Room 0 in a; 1 in b: (0, 0); 2 in c: (1, 0); d as a; e holds nothing.
KNOT = one(
    ("pair", "a", "u", "e", "e"),
    ("pair", "b", "v", "a", "a"),
    ("pair", "c", "w", "b", "a"),
    ("same", "d", "a"),
)
RUN = run_of(KNOT)
TO_FIRST = [("a", []), ("b", [1]), ("b", [2]), ("c", [1, 1]), ("c", [1, 2]), ("c", [2]), ("d", [])]


class LedTests(unittest.TestCase):
    def check(self, box, path, room):
        self.assertEqual(led(KNOT, RUN, box, path), room, (box, path))

    def test_the_path_without_letters(self):
        for box, room in (("a", 0), ("b", 1), ("c", 2), ("d", 0), ("e", None)):
            self.check(box, [], room)

    def test_letters(self):
        self.check("b", [1], 0)
        self.check("b", [2], 0)
        self.check("c", [1], 1)
        self.check("c", [2], 0)
        self.check("c", [1, 1], 0)
        self.check("c", [1, 2], 0)

    def test_beyond_the_rooms(self):
        self.check("a", [1], None)
        self.check("a", [2], None)
        self.check("c", [2, 1], None)
        self.check("c", [1, 1, 1], None)
        self.check("e", [1], None)
        self.check("e", [2, 1, 1, 2], None)
        self.check("c", [1, 2] * 30, None)

    def test_at_the_runs_end(self):
        self.assertIsNone(led(KNOT, RUN[:1], "a", []))
        self.assertEqual(led(KNOT, RUN[:2], "a", []), 0)
        self.assertIsNone(led(KNOT, RUN[:2], "b", [1]))
        self.assertEqual(led(KNOT, RUN[:3], "b", [1]), 0)

    def test_long_paths(self):
        program = one(("again",), ("pair", "x", "w", "x", "y"), ("end",))
        run = run_of(program, [1] * 500 + [0])
        self.assertEqual(led(program, run, "x", [1] * 499), 0)
        self.assertIsNone(led(program, run, "x", [1] * 500))
        self.assertIsNone(led(program, run, "x", [1] * 100 + [2]))

    def test_nothing_is_changed(self):
        path = [1, 2]
        run = list(RUN)
        led(KNOT, run, "c", path)
        self.assertEqual([path, run], [[1, 2], RUN])


class PathsToTests(unittest.TestCase):
    def test_several_boxes_and_paths(self):
        self.assertEqual(paths_to(KNOT, RUN, 0, 8), TO_FIRST)
        self.assertEqual(paths_to(KNOT, RUN, 1, 8), [("b", []), ("c", [1])])
        self.assertEqual(paths_to(KNOT, RUN, 2, 8), [("c", [])])

    def test_most(self):
        self.assertEqual(paths_to(KNOT, RUN, 0, 0), [("a", []), ("d", [])])
        self.assertEqual(paths_to(KNOT, RUN, 0, 1), [("a", []), ("b", [1]), ("b", [2]), ("c", [2]), ("d", [])])
        self.assertEqual(paths_to(KNOT, RUN, 0, 2), TO_FIRST)
        self.assertEqual(paths_to(KNOT, RUN, 2, 0), [("c", [])])

    def test_paths_of_just_so_many_letters(self):
        program = one(*[("pair", "x", "w", "x", "y")] * 9)
        run = run_of(program)
        self.assertEqual(paths_to(program, run, 0, 8), [("x", [1] * 8)])
        self.assertEqual(paths_to(program, run, 0, 7), [])
        program = one(*[("pair", "x", "w", "x", "x")] * 9)
        self.assertEqual(len(paths_to(program, run_of(program), 0, 8)), 256)

    def test_a_room_to_which_nothing_leads(self):
        program = one(("pair", "x", "w", "y", "y"), ("none", "x"))
        self.assertEqual(paths_to(program, run_of(program), 0, 8), [])

    def test_as_told_anew(self):
        for number, program in enumerate(good_programs(40) + [widest_program(), deepest_program()]):
            run = run_of(program, drawn_choices(number, 6))
            rooms, reads, told, boxes = plain_run(program, run)
            for at, room in enumerate(rooms[:6]):
                for most in (0, 1, 4):
                    expected = [
                        (box, path) for box in sorted(boxes) for path in sorted(all_paths(most))
                        if lead(boxes[box], path) is room
                    ]
                    self.assertEqual(paths_to(program, run, at, most), expected)
                    for box, path in expected:
                        self.assertEqual(led(program, run, box, path), at)

    def test_a_told_path_is_the_askers_own(self):
        told = paths_to(KNOT, RUN, 0, 8)
        self.assertEqual({(type(pair), type(pair[0]), type(pair[1])) for pair in told}, {(tuple, str, list)})
        for at in range(len(told)):
            told = paths_to(KNOT, RUN, 0, 8)
            kept = copy.deepcopy(told)
            told[at][1].append(9)
            kept[at][1].append(9)
            self.assertEqual(told, kept)
            self.assertEqual(paths_to(KNOT, RUN, 0, 8), TO_FIRST)
        told.clear()
        self.assertEqual(paths_to(KNOT, RUN, 0, 8), TO_FIRST)


if __name__ == "__main__":
    unittest.main()
