import copy
import random
import time
import unittest

from doneroom.holds import holds, is_closed
from doneroom.programs import is_program, places_of, words_of
from doneroom.readers import takes
from doneroom.spots import spots
from helper import AGAIN, EITHER, END, OR, all_paths, asked_by_holds, busy_programs, deepest_program, do, drawn_choices
from helper import drawn_entry, entries_of, is_well_formed, late_of, lead, leafy_program, least_entries, making_programs
from helper import named_words, one, plain_run, reader_with, run_of, widest_program

MAKE = ("pair", "x", "w", "y", "y")
TELL = ("tell", "x")


class RuleTests(unittest.TestCase):
    # In a straight program spot n is gap n.
    def check(self, lines, word, place, ends, moves):
        self.assertEqual(holds(one(*lines), word, place), (ends, moves))

    def test_making(self):
        self.check([MAKE], "w", None, [(0, 1, "x")], [])
        self.check([MAKE], "w", (0, 0), [(0, 1, "x")], [])

    def test_the_place_at_which_the_room_was_just_made(self):
        self.check([MAKE], "w", (0, 1), [(1, 1, "x")], [])
        self.check([MAKE, TELL], "w", (0, 1), [(1, 1, "x"), (1, 2, "x")], [])

    def test_another_word(self):
        program = [MAKE, ("pair", "x", "v", "y", "y")]
        self.check(program, "v", None, [(0, 2, "x")], [])
        self.check(program, "w", None, [(0, 1, "x")], [])

    def test_boxes_that_get_nothing_new(self):
        for line in (TELL, ("none", "y"), ("same", "y", "z"), ("first", "y", "x"), ("tell", "y"), do("p")):
            program = (("main", (MAKE, line)), ("p", ()))
            told = holds(program, "w")
            last = len(spots(program)) - 1
            self.assertIn((0, last, "x"), told[0], line)
            self.assertEqual(told[1], [])
        self.check([MAKE, ("none", "x")], "w", None, [(0, 1, "x")], [])
        self.check([MAKE, ("same", "x", "y")], "w", None, [(0, 1, "x")], [])
        self.check([MAKE, ("first", "x", "y")], "w", None, [(0, 1, "x")], [])
        self.check([MAKE, ("second", "x", "y")], "w", None, [(0, 1, "x")], [])

    def test_place_come_to_later(self):
        ends = [(0, 1, "x"), (0, 2, "x"), (1, 3, "x"), (1, 4, "x")]
        self.check([MAKE, TELL, TELL, TELL], "w", (0, 3), ends, [])

    def test_place_come_to_ahead_of_the_making_alone(self):
        self.check([TELL, MAKE, TELL], "w", (0, 1), [(0, 2, "x"), (0, 3, "x")], [])
        self.check([TELL, MAKE, TELL], "w", (0, 0), [(0, 2, "x"), (0, 3, "x")], [])

    def test_a_last_gap(self):
        self.check([MAKE, TELL], "w", (0, 2), [(0, 1, "x"), (1, 2, "x")], [])
        program = (("main", (do("p"), TELL)), ("p", (MAKE,)))
        # Spots: 0 do, 1 pair, 2 its last gap, 3 tell, 4 last gap.
        self.assertEqual(holds(program, "w", (1, 1)), ([(1, 2, "x"), (1, 3, "x"), (1, 4, "x")], []))
        self.assertEqual(holds(program, "w", (0, 1)), ([(0, 2, "x"), (1, 3, "x"), (1, 4, "x")], []))

    def test_same(self):
        ends = [(0, 1, "x"), (1, 2, "x"), (1, 2, "z")]
        self.check([MAKE, ("same", "z", "x")], "w", (0, 2), ends, [])
        self.check([MAKE, ("same", "x", "x")], "w", None, [(0, 1, "x"), (0, 2, "x")], [])

    def test_pair_of_what_leads_to_the_room(self):
        outer = ("pair", "z", "v", "x", "y")
        moves = [((0, 2, "z"), 1, (0, 1, "x"))]
        self.check([MAKE, outer], "w", None, [(0, 1, "x"), (0, 2, "x")], moves)
        outer = ("pair", "z", "v", "x", "x")
        moves = [((1, 2, "z"), 1, (0, 1, "x")), ((1, 2, "z"), 2, (0, 1, "x"))]
        self.check([MAKE, outer], "w", (0, 2), [(0, 1, "x"), (1, 2, "x")], moves)

    def test_pair_into_a_box_of_its_own(self):
        line = ("pair", "x", "w", "x", "x")
        moves = [((0, 2, "x"), 1, (0, 1, "x")), ((0, 2, "x"), 2, (0, 1, "x"))]
        self.check([line, line], "w", None, [(0, 1, "x"), (0, 2, "x")], moves)
        self.check([MAKE, ("pair", "x", "v", "x", "x")], "w", None, [(0, 1, "x")], moves)

    def test_first_and_second(self):
        outer = ("pair", "z", "v", "x", "y")
        moves = [((0, 2, "z"), 1, (0, 1, "x")), ((0, 3, "z"), 1, (0, 1, "x"))]
        ends = [(0, 1, "x"), (0, 2, "x"), (0, 3, "x")]
        self.check([MAKE, outer, ("first", "y", "z")], "w", None, ends + [(0, 3, "y")], moves)
        self.check([MAKE, outer, ("second", "y", "z")], "w", None, ends, moves)
        outer = ("pair", "z", "v", "y", "x")
        moves = [((0, 2, "z"), 2, (0, 1, "x")), ((1, 3, "z"), 2, (0, 1, "x"))]
        ends = [(0, 1, "x"), (0, 2, "x"), (1, 3, "x")]
        self.check([MAKE, outer, ("second", "y", "z")], "w", (0, 3), ends[:2] + [(1, 3, "x"), (1, 3, "y")], moves)
        self.check([MAKE, outer, ("first", "y", "z")], "w", (0, 3), ends, moves)

    def test_first_into_its_own_box(self):
        lines = [MAKE, ("pair", "x", "v", "x", "y"), ("first", "x", "x")]
        self.check(lines, "w", None, [(0, 1, "x"), (0, 3, "x")], [((0, 2, "x"), 1, (0, 1, "x"))])
        lines = [MAKE, ("pair", "x", "v", "y", "x"), ("second", "x", "x")]
        self.check(lines, "w", None, [(0, 1, "x"), (0, 3, "x")], [((0, 2, "x"), 2, (0, 1, "x"))])

    def test_first_of_a_room_within_a_room(self):
        lines = [MAKE, ("pair", "x", "v", "x", "y"), ("pair", "x", "v", "y", "x"), ("second", "x", "x")]
        moves = [((0, 2, "x"), 1, (0, 1, "x")), ((0, 3, "x"), 2, (0, 2, "x")), ((0, 4, "x"), 1, (0, 1, "x"))]
        self.check(lines, "w", None, [(0, 1, "x")], moves)

    def test_along_an_again(self):
        # Spots: 0 again, 1 head, 2 last gap, 3 pair, 4 end.
        line = ("pair", "x", "w", "x", "y")
        program = one(AGAIN, line, END)
        self.assertEqual([spot[2:] for spot in spots(program)], [(0, False), (0, True), (3, False), (1, False), (2, False)])
        for seats, place in (([1, 2, 3, 4], None), ([1, 2, 3, 4], (0, 0))):
            ends = [(0, n, "x") for n in seats]
            moves = [((0, n, "x"), 1, (0, 3, "x")) for n in seats]
            self.assertEqual(holds(program, "w", place), (ends, moves))
        # The room is made at gap 2, so come to there it is late from the first on.
        ends = [(1, n, "x") for n in seats]
        self.assertEqual(holds(program, "w", (0, 2)), (ends, [((1, n, "x"), 1, (1, 3, "x")) for n in seats]))

    def test_late_in_the_next_round(self):
        program = one(AGAIN, TELL, MAKE, END)
        # Spots: 0 again, 1 head, 2 last gap, 3 tell, 4 pair, 5 end.
        ends = [(0, 1, "x"), (0, 2, "x"), (0, 5, "x"), (1, 3, "x"), (1, 4, "x")]
        self.assertEqual(holds(program, "w", (0, 1)), (ends, []))
        program = one(AGAIN, TELL, EITHER, MAKE, OR, END, END)
        told = holds(program, "w", (0, 1))
        at = {spot[2:]: n for n, spot in enumerate(spots(program))}
        # Made in one round, kept through the next one by the other branch.
        self.assertIn((1, at[(5, False)], "x"), told[0])
        self.assertNotIn((0, at[(5, False)], "x"), told[0])
        self.assertIn((0, at[(4, False)], "x"), told[0])

    def test_a_head_is_at_no_place(self):
        program = one(MAKE, AGAIN, TELL, END)
        self.assertEqual({end[0] for end in holds(program, "w")[0]}, {0})
        self.assertEqual({end[0] for end in holds(program, "w", (0, 0))[0]}, {0})

    def test_a_place_of_a_part_done_several_times(self):
        program = (("main", (MAKE, do("p"), TELL, do("p"))), ("p", (TELL,)))
        numbers = {spot: n for n, spot in enumerate(spots(program))}
        told = holds(program, "w", (1, 1))
        late = {spot for spot in numbers if (1, numbers[spot], "x") in told[0]}
        early = {spot for spot in numbers if (0, numbers[spot], "x") in told[0]}
        self.assertEqual(early, {((), 0, 1, False), (((0, 1),), 1, 0, False)})
        self.assertEqual(late, set(numbers) - early - {((), 0, 0, False)})
        program = (("main", (do("p"), MAKE, do("p"))), ("p", (TELL,)))
        numbers = {spot: n for n, spot in enumerate(spots(program))}
        told = holds(program, "w", (1, 0))
        self.assertEqual(told[0], [(0, numbers[((), 0, 2, False)], "x")] + [
            (1, numbers[spot], "x") for spot in ((((0, 2),), 1, 0, False), (((0, 2),), 1, 1, False), ((), 0, 3, False))
        ])

    def test_a_word_whose_pair_line_no_run_comes_to(self):
        program = (("main", (MAKE, TELL)), ("lone", (("pair", "x", "lone", "y", "y"),)))
        for place in [None] + places_of(program):
            self.assertEqual(holds(program, "lone", place), ([], []))
            self.assertIs(is_closed(program, "lone", place, ([], [])), True)

    def test_a_place_to_which_no_run_comes(self):
        program = (("main", (MAKE, TELL)), ("lone", (TELL,)))
        self.assertEqual(holds(program, "w", (1, 0)), holds(program, "w"))


def small_cases(count):
    for number, program in enumerate(making_programs(count // 2) + busy_programs(count // 2)):
        places = places_of(program)
        rng = random.Random(number)
        for word in named_words(program):
            for place in [None] + rng.sample(places, min(3, len(places))):
                yield program, word, place


class LeastTests(unittest.TestCase):
    def test_as_told_anew(self):
        for program, word, place in small_cases(45):
            told = holds(program, word, place)
            expected = least_entries(lambda entries: asked_by_holds(program, word, place, entries))
            self.assertEqual(told, reader_with(expected), (program, word, place))
            self.assertIs(is_closed(program, word, place, told), True)

    def test_form(self):
        for program, word, place in list(small_cases(40)) + [(widest_program(), "w", (1, 2))]:
            self.assertTrue(is_well_formed(holds(program, word, place)))

    def test_told_lists_are_the_askers_own(self):
        program = widest_program()
        kept = holds(program, "w", (1, 2))
        told = holds(program, "w", (1, 2))
        told[0].clear()
        told[1].reverse()
        self.assertEqual(holds(program, "w", (1, 2)), kept)


class ClosedTests(unittest.TestCase):
    def check(self, program, word, place, entries):
        told = is_closed(program, word, place, reader_with(entries))
        self.assertIs(told, asked_by_holds(program, word, place, entries) <= entries, (program, word, place, entries))
        return told

    def test_one_entry_less(self):
        seen = set()
        for program, word, place in small_cases(30):
            entries = entries_of(holds(program, word, place))
            for entry in sorted(entries, key=repr)[:25]:
                seen.add(self.check(program, word, place, entries - {entry}))
        self.assertIn(False, seen)

    # Of the least reader each entry is asked by a rule, but perhaps only along a ring of others.
    def test_of_a_straight_program_each_entry_is_asked(self):
        program = one(MAKE, ("pair", "z", "v", "x", "y"), ("first", "y", "z"), ("same", "x", "z"), ("second", "x", "x"))
        entries = entries_of(holds(program, "w", (0, 3)))
        self.assertGreater(len(entries), 8)
        for entry in entries:
            self.assertIs(self.check(program, "w", (0, 3), entries - {entry}), False)

    def test_entries_more(self):
        seen = set()
        for number, (program, word, place) in enumerate(small_cases(40)):
            rng = random.Random(number)
            entries = entries_of(holds(program, word, place))
            for count in (1, 1, 1, 3, 9):
                more = {drawn_entry(rng, program) for entry in range(count)}
                seen.add(self.check(program, word, place, entries | more))
                grown = set(entries | more)
                while not asked_by_holds(program, word, place, grown) <= grown:
                    grown |= asked_by_holds(program, word, place, grown)
                self.assertIs(is_closed(program, word, place, reader_with(grown)), True)
        self.assertEqual(seen, {True, False})

    def test_drawn_readers(self):
        for number, (program, word, place) in enumerate(small_cases(40)):
            rng = random.Random(number)
            self.check(program, word, place, {drawn_entry(rng, program) for entry in range(rng.randint(0, 6))})

    # Each rule by itself: what lies at a seat must lie behind the line too.
    def test_each_rule(self):
        here, there = (0, 0, "x"), (0, 1, "x")
        for late in (0, 1):
            x, y, z = [(late, 0, box) for box in "xyz"]
            far = (late, 1, "x")
            cases = [
                (TELL, {(x,)}, {(far,)}),
                (TELL, {(x, 2, y)}, {(far, 2, y)}),
                (("same", "x", "y"), {(y,)}, {(far,), ((late, 1, "y"),)}),
                (("same", "x", "x"), {(x, 1, z)}, {(far, 1, z)}),
                (("first", "x", "y"), {(y, 1, z), (z,)}, {(far,), ((late, 1, "y"), 1, z), ((late, 1, "z"),)}),
                (("second", "x", "y"), {(y, 2, z), (z, 1, x)},
                 {(far, 1, x), ((late, 1, "y"), 2, z), ((late, 1, "z"), 1, x)}),
                (("first", "x", "x"), {(x, 1, z), (z,)}, {(far,), ((late, 1, "z"),)}),
                (("pair", "x", "v", "y", "z"), {(y,)}, {(far, 1, y), ((late, 1, "y"),)}),
                (("pair", "x", "v", "y", "z"), {(z, 1, x)}, {(far, 2, z), ((late, 1, "z"), 1, x)}),
                (("pair", "x", "v", "x", "x"), {(x,)}, {(far, 1, x), (far, 2, x)}),
            ]
            for line, ahead, behind in cases:
                program = (("main", (line,)), ("lone", (MAKE, ("pair", "x", "w", "y", "z"))))
                self.assertIs(self.check(program, "w", None, ahead | behind), True)
                self.assertIs(self.check(program, "w", (0, 0), ahead | behind), True)
                for entry in behind:
                    self.assertIs(self.check(program, "w", None, ahead | behind - {entry}), False)
        self.assertIs(self.check(one(MAKE), "w", None, {(there,)}), True)
        self.assertIs(self.check(one(MAKE), "w", None, {((1, 1, "x"),)}), False)
        self.assertIs(self.check(one(MAKE), "w", (0, 1), {((1, 1, "x"),)}), True)
        self.assertIs(self.check(one(MAKE), "w", (0, 1), {(there,)}), False)
        self.assertIs(self.check(one(MAKE), "w", None, {(there,), (here, 1, (0, 0, "y"))}), True)

    def test_what_does_not_matter(self):
        program = one(TELL, ("first", "x", "y"), MAKE)
        least = entries_of(holds(program, "w"))
        # A move of the other letter, and a move to a seat at which nothing is.
        moves = {((0, 1, "y"), 2, (0, 3, "x")), ((0, 2, "y"), 2, (0, 3, "x")), ((0, 3, "y"), 2, (0, 3, "x"))}
        wrapped = {((0, 3, "x"), 1, (0, 2, "y")), ((0, 3, "x"), 2, (0, 2, "y"))}
        self.assertIs(self.check(program, "w", None, least | moves | wrapped), True)
        moves = {(seat, 1, other) for seat, letter, other in moves}
        self.assertIs(self.check(program, "w", None, least | moves | wrapped), False)
        moves = {(seat, 1, (0, 0, "y")) for seat, letter, other in moves}
        self.assertIs(self.check(program, "w", None, least | moves | wrapped), True)
        # At the last gap nothing is asked any more.
        self.assertIs(self.check(program, "w", None, least | {((1, 3, "y"),)}), True)

    def test_without_entries(self):
        self.assertIs(is_closed(one(TELL), "w", None, ([], [])), True)
        self.assertIs(is_closed(one(MAKE), "w", None, ([], [])), False)
        self.assertIs(is_closed(one(MAKE), "w", (0, 1), ([], [])), False)
        self.assertIs(is_closed(one(MAKE, ("pair", "x", "v", "y", "y")), "v", None, ([], [])), False)

    def test_the_reader_stays(self):
        program = widest_program()
        reader = holds(program, "w", (1, 2))
        kept = copy.deepcopy(reader)
        is_closed(program, "w", (1, 2), reader)
        self.assertEqual(reader, kept)


class RunTests(unittest.TestCase):
    def test_paths_along_runs_are_taken(self):
        paths = all_paths(3)
        for number, (program, word, place) in enumerate(small_cases(60)):
            told = holds(program, word, place)
            numbers = {spot: n for n, spot in enumerate(spots(program))}
            run = run_of(program, drawn_choices(number, 8))[:40]
            for count in range(1, len(run) + 1):
                rooms, reads, words, boxes = plain_run(program, run[:count])
                for box in boxes:
                    for path in paths:
                        room = lead(boxes[box], path)
                        if room is not None and room.word == word:
                            seat = (late_of(run[:count], room, place), numbers[run[count - 1]], box)
                            self.assertTrue(takes(told, seat, path), (program, word, place, seat, path))

    # Without choices there is one run alone: taken is just what it leads to.
    def test_of_a_straight_program_nothing_else_is_taken(self):
        lines = [MAKE, ("pair", "y", "v", "x", "x"), ("second", "x", "y"), ("pair", "y", "w", "y", "x"), do("p")]
        lines += [("first", "y", "y"), ("same", "x", "y"), ("none", "y"), ("first", "y", "x")]
        program = (("main", tuple(lines)), ("p", (("pair", "x", "v", "y", "z"), ("tell", "x"))))
        run = run_of(program)
        for word in ("v", "w"):
            for place in [None] + places_of(program):
                told = holds(program, word, place)
                for n in range(len(run)):
                    rooms, reads, words, boxes = plain_run(program, run[:n + 1])
                    for box in boxes:
                        for path in all_paths(4):
                            room = lead(boxes[box], path)
                            for late in (0, 1):
                                fits = room is not None and room.word == word and late_of(run[:n + 1], room, place) == late
                                self.assertIs(takes(told, (late, n, box), path), fits)


class BoundTests(unittest.TestCase):
    def test_within_seconds(self):
        programs = [widest_program(), deepest_program()] + [leafy_program(number, 2 + number) for number in range(11)]
        for program in programs:
            self.assertIs(is_program(program), True)
            places = places_of(program)
            for word in words_of(program)[:2]:
                for place in (None, places[len(places) // 2]):
                    began = time.monotonic()
                    told = holds(program, word, place)
                    self.assertIs(is_closed(program, word, place, told), True)
                    self.assertLess(time.monotonic() - began, 5)


if __name__ == "__main__":
    unittest.main()
