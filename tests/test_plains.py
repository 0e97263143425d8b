import unittest

from doneroom.flats import flat
from doneroom.plains import traced
from helper import AGAIN, EITHER, END, OR, back, deepest_program, do, drawn_choices, good_programs, one, plain_run
from helper import run_of, widest_program

MAKE = ("pair", "a", "in", "b", "b")
OUTER = ("pair", "c", "out", "a", "b")


def by_lines(*lines):
    return traced(one(*lines), run_of(one(*lines)))


class LineTests(unittest.TestCase):
    def check(self, lines, rooms, reads, told, held):
        self.assertEqual(by_lines(*lines), (rooms, reads, told, held))

    def test_pair_of_boxes_that_hold_nothing(self):
        self.check([MAKE], [("in", None, None, 1)], [], [], [("a", 0), ("b", None)])

    def test_pair_of_a_box_that_holds_a_room(self):
        rooms = [("in", None, None, 1), ("out", 0, None, 2)]
        self.check([MAKE, OUTER], rooms, [], [], [("a", 0), ("b", None), ("c", 1)])
        rooms = [("in", None, None, 1), ("out", None, 0, 2)]
        self.check([MAKE, ("pair", "c", "out", "b", "a")], rooms, [], [], [("a", 0), ("b", None), ("c", 1)])

    def test_first(self):
        rooms = [("in", None, None, 1), ("out", 0, None, 2)]
        self.check([MAKE, OUTER, ("first", "d", "c")], rooms, [(2, 1)], [], holding(a=0, b=None, c=1, d=0))
        self.check([MAKE, OUTER, ("first", "a", "a")], rooms, [(2, 0)], [], holding(a=None, b=None, c=1))
        self.check([MAKE, ("first", "a", "b")], rooms[:1], [], [], holding(a=None, b=None))

    def test_second(self):
        rooms = [("in", None, None, 1), ("out", None, 0, 2)]
        outer = ("pair", "c", "out", "b", "a")
        self.check([MAKE, outer, ("second", "d", "c")], rooms, [(2, 1)], [], holding(a=0, b=None, c=1, d=0))
        self.check([MAKE, outer, ("first", "a", "c")], rooms, [(2, 1)], [], holding(a=None, b=None, c=1))
        self.check([MAKE, ("second", "a", "b")], rooms[:1], [], [], holding(a=None, b=None))

    def test_same(self):
        rooms = [("in", None, None, 1)]
        self.check([MAKE, ("same", "c", "a")], rooms, [], [], holding(a=0, b=None, c=0))
        self.check([MAKE, ("same", "a", "b")], rooms, [], [], holding(a=None, b=None))

    def test_none(self):
        rooms = [("in", None, None, 1)]
        self.check([MAKE, ("none", "a")], rooms, [], [], holding(a=None, b=None))
        self.check([MAKE, ("none", "b")], rooms, [], [], holding(a=0, b=None))

    def test_tell(self):
        rooms = [("in", None, None, 1)]
        self.check([MAKE, ("tell", "a"), ("tell", "b"), ("tell", "a")], rooms, [(1, 0), (3, 0)], ["in", "-", "in"],
                   holding(a=0, b=None))

    def test_boxes_that_are_one_and_the_same(self):
        rooms = [("w", None, None, 1), ("w", 0, 0, 2), ("w", 1, 1, 3)]
        lines = [("pair", "x", "w", "x", "x")] * 3
        self.check(lines, rooms, [], [], [("x", 2)])
        self.check(lines + [("same", "x", "x")], rooms, [], [], [("x", 2)])
        self.check(lines + [("first", "x", "x")], rooms, [(3, 2)], [], [("x", 1)])
        self.check(lines + [("second", "x", "x")] * 2, rooms, [(3, 2), (4, 1)], [], [("x", 0)])
        self.check([("first", "x", "x"), ("second", "x", "x"), ("same", "x", "x")], [], [], [], [("x", None)])

    def test_pair_takes_what_the_boxes_held_ahead(self):
        rooms = [("w", None, None, 1), ("v", 0, None, 2), ("u", None, 1, 3)]
        lines = [("pair", "x", "w", "x", "y"), ("pair", "x", "v", "x", "y"), ("pair", "x", "u", "y", "x")]
        self.check(lines, rooms, [], [], holding(x=2, y=None))

    def test_what_is_within_a_room_stays(self):
        rooms = [("in", None, None, 1), ("out", 0, None, 2), ("in", None, None, 3)]
        self.check([MAKE, OUTER, MAKE, ("first", "a", "c")], rooms, [(3, 1)], [], holding(a=0, b=None, c=1))

    def test_back_lines_give_nothing_back(self):
        rooms = [("in", None, None, 1)]
        lines = [MAKE, back("in"), ("tell", "a"), back("in"), ("first", "b", "a")]
        self.check(lines, rooms, [(2, 0), (4, 0)], ["in"], holding(a=0, b=None))


def holding(**held):
    return sorted(held.items())


PROGRAM = (
    ("main", (MAKE, AGAIN, do("mid"), END, EITHER, ("none", "a"), OR, ("same", "b", "a"), END, ("tell", "a"))),
    ("mid", (do("low"), ("tell", "c"))),
    ("low", (OUTER, ("first", "b", "c"))),
    ("lone", (("same", "z", "y"), ("pair", "q", "lone", "q", "q"))),
)


class RunTests(unittest.TestCase):
    def test_the_first_spot_alone(self):
        held = holding(a=None, b=None, c=None, q=None, y=None, z=None)
        self.assertEqual(traced(PROGRAM, [((), 0, 0, False)]), ([], [], [], held))
        self.assertEqual(traced(one(), run_of(one())), ([], [], [], []))

    def test_do_lines_and_heads(self):
        # Steps: 0 pair, 1 again, 2 head, 3 do, 4 do, 5 pair, 6 first, 7 last gap, 8 tell, 9 last gap, 10 end, 11 head.
        rooms = [("in", None, None, 1), ("out", 0, None, 6), ("out", 0, 0, 15)]
        reads = [(6, 1), (8, 1), (15, 2), (17, 2), (24, 0)]
        held = holding(a=0, b=0, c=2, q=None, y=None, z=None)
        run = run_of(PROGRAM, [1, 1, 0, 1])
        self.assertEqual(traced(PROGRAM, run), (rooms, reads, ["out", "out", "in"], held))
        self.assertEqual([run[6][1:], run[15][1:], run[24][1:]], [(2, 1, False), (2, 1, False), (0, 9, False)])

    def test_cut_off_at_any_step(self):
        run = run_of(PROGRAM, [1, 1, 0, 0])
        whole = traced(PROGRAM, run)
        for count in range(1, len(run) + 1):
            rooms, reads, told, held = traced(PROGRAM, run[:count])
            self.assertEqual(rooms, [room for room in whole[0] if room[3] < count])
            self.assertEqual(reads, [read for read in whole[1] if read[0] < count - 1])
            self.assertEqual(told, whole[2][:len(told)])
            self.assertEqual(held, numbered(PROGRAM, run[:count])[3])

    def test_the_line_of_the_last_spot_is_not_done(self):
        lines = [MAKE, ("tell", "a"), ("none", "a")]
        program = one(*lines)
        self.assertEqual(traced(program, run_of(program)[:1]), ([], [], [], holding(a=None, b=None)))
        rooms = [("in", None, None, 1)]
        self.assertEqual(traced(program, run_of(program)[:2]), (rooms, [], [], holding(a=0, b=None)))
        self.assertEqual(traced(program, run_of(program)[:3]), (rooms, [(1, 0)], ["in"], holding(a=0, b=None)))

    def test_as_told_anew(self):
        for number, program in enumerate(good_programs() + [widest_program(), deepest_program()]):
            for count in (0, 1, 2, 5, 40):
                run = run_of(program, drawn_choices(number * 100 + count, count))
                self.assertEqual(traced(program, run), numbered(program, run))

    def test_the_flat_program_makes_reads_and_tells_the_same(self):
        for number, program in enumerate(good_programs() + [widest_program(), PROGRAM]):
            for count in (0, 3, 30):
                choices = drawn_choices(number * 100 + count, count)
                one_trace = traced(program, run_of(program, choices))
                other = traced(flat(program), run_of(flat(program), choices))
                self.assertEqual([room[:3] for room in one_trace[0]], [room[:3] for room in other[0]])
                self.assertEqual([read[1] for read in one_trace[1]], [read[1] for read in other[1]])
                self.assertEqual(one_trace[2], other[2])
                # The flat one lacks the boxes of parts that none does: they hold nothing.
                kept = dict(other[3])
                self.assertEqual(one_trace[3], [(box, kept.get(box)) for box, room in one_trace[3]])

    def test_a_long_run(self):
        program = one(AGAIN, ("pair", "x", "w", "x", "x"), END, ("first", "x", "x"), ("tell", "x"))
        rooms, reads, told, held = traced(program, run_of(program, [1] * 3000 + [0]))
        self.assertEqual([len(rooms), rooms[-1], reads[0][1], told], [3000, ("w", 2998, 2998, 9000), 2999, ["w"]])
        self.assertEqual(held, [("x", 2998)])


# The trace told anew, its Rooms by their numbers.
def numbered(program, run):
    rooms, reads, told, boxes = plain_run(program, run)

    def number(room):
        return None if room is None else [room is other for other in rooms].index(True)

    listed = [(room.word, number(room.inner[1]), number(room.inner[2]), room.step) for room in rooms]
    held = [(box, number(room)) for box, room in sorted(boxes.items())]
    return (listed, [(step, number(room)) for step, room in reads], told, held)


class ToldTests(unittest.TestCase):
    def test_kinds(self):
        told = traced(PROGRAM, run_of(PROGRAM, [1, 0, 1]))
        self.assertIs(type(told), tuple)
        self.assertEqual([type(part) for part in told], [list] * 4)
        for part, size in ((told[0], 4), (told[1], 2), (told[3], 2)):
            self.assertEqual({(type(thing), len(thing)) for thing in part}, {(tuple, size)})
        numbers = [room[3] for room in told[0]] + [number for read in told[1] for number in read]
        self.assertEqual({type(number) for number in numbers}, {int})

    def test_told_lists_are_the_askers_own(self):
        run = run_of(PROGRAM, [1, 0, 1])
        kept = list(run)
        first = traced(PROGRAM, run)
        second = traced(PROGRAM, run)
        self.assertEqual(first, second)
        for part in first:
            part.append("other")
            part.reverse()
        self.assertEqual(traced(PROGRAM, run), second)
        self.assertEqual(run, kept)
        self.assertEqual(len({id(part) for part in first}), 4)


if __name__ == "__main__":
    unittest.main()
