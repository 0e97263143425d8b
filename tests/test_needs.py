import copy
import random
import time
import unittest

from doneroom.errors import NoPlace, NoWord
from doneroom.holds import holds, is_closed
from doneroom.meets import meets
from doneroom.needs import is_done, need
from doneroom.papers import shows_done
from doneroom.programs import is_program, places_of, words_of
from doneroom.runs import is_run
from doneroom.spots import spots
from doneroom.wants import wants
from helper import AGAIN, EITHER, END, OR, Search, asked_by_holds, back, busy_programs, deepest_program, do, drawn_entry
from helper import entries_of, has_no_late_read, is_well_formed, leafy_program, making_programs, named_boxes
from helper import named_words, one, reader_with, reads_at_last, run_of, widest_program

MAKE = ("pair", "x", "w", "y", "y")
TELL = ("tell", "x")
WRAP, UNWRAP = ("pair", "x", "v", "x", "y"), ("first", "x", "x")


class NeedCase(unittest.TestCase):
    def check_read(self, program, word, place, size=None):
        told = need(program, word, place)
        self.assertEqual((type(told), len(told), told[0]), (tuple, 2, "read"))
        run = told[1]
        self.assertIs(type(run), list)
        self.assertIs(is_run(program, run), True)
        self.assertTrue(reads_at_last(program, word, place, run), (program, word, place, run))
        self.assertIs(is_done(program, word, place), False)
        if size is not None:
            self.assertEqual(len(run), size)
        return run

    def check_done(self, program, word, place):
        told = need(program, word, place)
        self.assertEqual((type(told), len(told), told[0]), (tuple, 2, "done"))
        paper = told[1]
        self.assertTrue(is_well_formed(paper))
        self.assertLessEqual(asked_by_holds(program, word, place, entries_of(paper)), entries_of(paper))
        self.assertTrue(has_no_late_read(program, paper))
        self.assertIs(shows_done(program, word, place, paper), True)
        self.assertIs(is_done(program, word, place), True)

    # Of each place: how many spots the run has, None for done.
    def check_sizes(self, program, word, sizes):
        self.assertEqual(len(sizes), len(places_of(program)))
        for place, size in zip(places_of(program), sizes):
            with self.subTest(place=place):
                if size is None:
                    self.check_done(program, word, place)
                else:
                    self.check_read(program, word, place, size)


class NeedTests(NeedCase):
    def test_read_just_behind_its_making(self):
        self.check_sizes(one(MAKE, TELL), "w", [None, 3, None])
        self.assertEqual(need(one(MAKE, TELL), "w", (0, 1)), ("read", run_of(one(MAKE, TELL))))

    def test_ahead_of_the_reading_line_and_behind_it(self):
        program = one(("none", "z"), MAKE, ("none", "z"), TELL, ("none", "z"))
        self.check_sizes(program, "w", [None, None, 5, 5, None, None])

    def test_come_to_ahead_of_the_making_alone(self):
        self.check_done(one(("none", "z"), MAKE, TELL), "w", (0, 0))
        self.check_done(one(("none", "z"), MAKE, TELL), "w", (0, 1))

    def test_not_read(self):
        for line in (("tell", "y"), ("first", "z", "y"), ("same", "z", "x"), ("pair", "z", "v", "x", "x"), ("none", "x")):
            self.check_sizes(one(MAKE, line), "w", [None, None, None])
        self.check_sizes(one(MAKE, ("none", "x"), TELL), "w", [None] * 4)
        self.check_sizes(one(MAKE, MAKE, TELL), "w", [None, None, 4, None])

    def test_read_by_each_line_that_reads(self):
        for line in (TELL, ("first", "z", "x"), ("second", "z", "x"), ("first", "x", "x"), ("second", "x", "x")):
            self.check_sizes(one(MAKE, line), "w", [None, 3, None])

    def test_read_twice(self):
        self.check_sizes(one(MAKE, TELL, TELL), "w", [None, 3, 4, None])

    def test_the_word_counts(self):
        program = one(MAKE, TELL, ("pair", "x", "v", "x", "y"), TELL, TELL)
        self.check_sizes(program, "w", [None, 3, None, None, None, None])
        self.check_sizes(program, "v", [None, None, None, 5, 6, None])

    def test_through_a_room_that_holds_the_room(self):
        outer = ("pair", "z", "v", "x", "y")
        program = one(MAKE, outer, ("none", "x"), ("first", "x", "z"), ("none", "z"), TELL)
        self.check_sizes(program, "w", [None, 7, 7, 7, 7, 7, None])
        self.check_sizes(program, "v", [None, None, 5, 5, None, None, None])
        program = one(MAKE, outer, ("none", "x"), ("second", "x", "z"), ("none", "z"), TELL)
        self.check_sizes(program, "w", [None] * 7)
        outer = ("pair", "x", "v", "y", "x")
        program = one(MAKE, outer, outer, ("second", "x", "x"), ("second", "x", "x"), TELL)
        self.check_sizes(program, "w", [None, 7, 7, 7, 7, 7, None])
        self.check_sizes(program, "v", [None, None, 6, 5, 6, None, None])

    def test_read_in_a_later_round(self):
        # Made at the end of a round and read at the beginning of the next one.
        program = one(AGAIN, TELL, MAKE, ("none", "z"), END)
        # Spots of the run: again, head, tell, pair, none, end, head, tell, pair.
        self.check_sizes(program, "w", [None, 9, None, 9, 9, None])
        # Gap 4 is come to behind the making, gap 1 in the next round, gap 2 only when all was read.
        self.assertEqual(place_numbers(need(program, "w", (0, 4))[1]), [0, None, 1, 2, 3, 4, None, 1, 2])

    def test_a_round_more_that_comes_to_the_place(self):
        program = one(MAKE, AGAIN, ("none", "z"), END, TELL)
        # Spots: pair, again, head, tell, behind it; with a round: pair, again, head, none, end, head, tell, behind it.
        self.check_sizes(program, "w", [None, 5, 8, 8, 5, None])

    def test_either(self):
        program = one(MAKE, EITHER, TELL, OR, ("none", "x"), END, TELL)
        # Spots: pair, either, tell, or, tell, last gap; by the or no room is left.
        self.check_sizes(program, "w", [None, 4, 4, 6, None, None, 6, None])

    def test_rooms_built_up_and_taken_apart(self):
        # Behind the again of firsts x holds the leaf only when it was gone through as often as the one of pairs.
        program = one(
            ("pair", "x", "leaf", "y", "y"), AGAIN, ("pair", "x", "node", "x", "y"), END, ("first", "x", "x"),
            ("first", "x", "x"), ("first", "x", "x"), TELL,
        )
        # Spots: pair, again, three rounds of head, pair and end, head, three firsts, tell, last gap.
        run = self.check_read(program, "leaf", (0, 7), 17)
        self.assertEqual(len([spot for spot in run if spot[2:] == (2, False)]), 3)
        self.check_read(program, "leaf", (0, 5), 9)
        self.check_read(program, "leaf", (0, 4), 5)
        self.check_read(program, "leaf", (0, 3), 9)

    def test_parts_done_several_times(self):
        program = (("main", (do("p"), do("q"), do("p"))), ("p", (TELL, MAKE)), ("q", (("none", "z"),)))
        # Run: do, tell, pair, last gap, do, none, last gap, do, tell, behind it.
        for place, size in (((1, 2), 10), ((0, 1), 10), ((2, 0), 10), ((2, 1), 10), ((0, 2), 10), ((1, 0), 10)):
            self.check_read(program, "w", place, size)
        for place in ((0, 0), (1, 1), (0, 3)):
            self.check_done(program, "w", place)

    def test_a_place_in_a_part_that_no_run_comes_to(self):
        program = (("main", (MAKE, TELL)), ("lone", (TELL, TELL)))
        for gap in range(3):
            self.check_done(program, "w", (1, gap))

    def test_a_word_whose_pair_line_no_run_comes_to(self):
        program = (("main", (MAKE, TELL)), ("lone", (("pair", "x", "lone", "y", "y"), TELL)))
        for place in places_of(program):
            self.check_done(program, "lone", place)

    def test_shortest_by_a_search_through_all_runs(self):
        sizes = []
        for number, program in enumerate(busy_programs(90)):
            rng = random.Random(number)
            for word in named_words(program):
                for place in rng.sample(places_of(program), min(5, len(places_of(program)))):
                    if is_done(program, word, place):
                        self.check_done(program, word, place)
                        self.assertIn(Search(program, word, place).shortest(25, 400), (None, "cut"))
                    else:
                        size = Search(program, word, place).shortest(60, 20000)
                        self.check_read(program, word, place, None if size == "cut" else size)
                        self.assertIsNotNone(size)
                        sizes.append(size)
        self.assertGreater(len(sizes), 60)
        self.assertLess(sizes.count("cut"), 3)

    # Two branches by which the room comes to the tell, each of so many lines: the one with fewer is gone through.
    def test_the_shorter_of_two_branches(self):
        branches = [tuple(fill(k)) for k in range(12)]
        branches += [(WRAP, UNWRAP) * k for k in range(1, 6)]
        branches += [(WRAP,) + fill(k) + (UNWRAP,) + fill(j) for k in (1, 4, 7) for j in (0, 2)]
        branches += [(WRAP,) * k + (UNWRAP,) * k for k in (2, 4)]
        branches += [(("same", "z", "x"), ("same", "x", "z")) * k for k in (1, 3)]
        for number, one_branch in enumerate(branches):
            for other in branches[number + 1:]:
                for ahead in (0, 9):
                    lines = fill(ahead) + (MAKE, EITHER) + one_branch + (OR,) + other + (END, TELL)
                    size = ahead + 5 + min(len(one_branch), len(other))
                    self.assertEqual(len(need(one(*lines), "w", (0, len(lines) - 1))[1]), size, lines)

    # The making stands in the branches too, near or far from the first spot.
    def test_the_shorter_of_two_makings(self):
        for ahead, behind, other_ahead, other_behind in ((0, 6, 8, 0), (8, 0, 0, 6), (0, 8, 6, 0), (5, 5, 2, 7), (2, 7, 5, 5)):
            one_branch = fill(ahead) + (MAKE,) + fill(behind)
            other = fill(other_ahead) + (MAKE,) + fill(other_behind)
            lines = (EITHER,) + one_branch + (OR,) + other + (END, TELL)
            size = 4 + min(len(one_branch), len(other))
            self.check_read(one(*lines), "w", (0, len(lines) - 1), size)

    # The first line is gone through by and by with the place come to and without: once is enough.
    def test_no_round_too_many(self):
        for ahead in (0, 3, 12):
            take = (AGAIN, ("first", "x", "z"), END, TELL)
            lines = fill(ahead) + (MAKE, ("pair", "z", "v", "x", "y"), ("none", "x")) + take
            # Spots behind those ahead: pair, pair, none, again, head, first, end, head, tell, last gap.
            self.check_read(one(*lines), "w", (0, ahead + 5), ahead + 10)
            lines = fill(ahead) + (MAKE, WRAP, AGAIN, ("pair", "x", "v", "x", "y"), UNWRAP, END, UNWRAP, TELL)
            # Spots: pair, pair, again, head, pair, first, end, head, first, tell, last gap.
            self.check_read(one(*lines), "w", (0, ahead + 4), ahead + 11)
            self.check_read(one(*lines), "w", (0, ahead + 7), ahead + 7)

    def test_needed_just_where_holds_and_wants_meet(self):
        for program in busy_programs(40) + making_programs(30):
            wanted = wants(program)
            for word in named_words(program):
                held = holds(program, word)
                met = set()
                for n, spot in enumerate(spots(program)):
                    if any(meets(held, (0, n, box), wanted, (0, n, box)) is not None for box in named_boxes(program)):
                        met.add(None if spot[3] else spot[1:3])
                for place in places_of(program):
                    self.assertIs(is_done(program, word, place), place not in met, (program, word, place))

    def test_told_lists_are_the_askers_own(self):
        program = one(MAKE, ("pair", "z", "w", "x", "x"), ("none", "x"), ("first", "z", "z"))
        kept = copy.deepcopy(program)
        for place in ((0, 2), (0, 4)):
            first, second = need(program, "w", place), need(program, "w", place)
            for told in first[1] if first[0] == "done" else [first[1]]:
                self.assertTrue(told)
                told.clear()
            again = need(program, "w", place)
            self.assertEqual(again[0], second[0])
            self.assertNotEqual(again, first)
        self.assertEqual(program, kept)


def fill(count):
    return (("none", "q"),) * count


def place_numbers(run):
    return [None if spot[3] else spot[2] for spot in run]


class RefusalTests(unittest.TestCase):
    PROGRAM = (("main", (MAKE, do("p"))), ("p", (TELL,)), ("lone", (("pair", "x", "lone", "y", "y"),)))

    def refused(self, error, program, word, place):
        for ask in (is_done, need):
            with self.assertRaises(error) as caught:
                ask(program, word, place)
            self.assertIs(type(caught.exception), error)

    def test_no_word(self):
        for word in ("v", "", "x", "y", "p", "main", "pair", "W", "w ", "\n", "w" * 5000, "- ~"):
            self.refused(NoWord, self.PROGRAM, word, (0, 0))

    def test_words_of_back_lines_alone(self):
        program = one(MAKE, back("v"), back("w"), TELL)
        self.refused(NoWord, program, "v", (0, 0))
        self.assertIs(is_done(program, "w", (0, 4)), True)

    def test_no_place(self):
        for place in ((0, 3), (0, -1), (-1, 0), (1, 2), (2, 2), (3, 0), (-1, -1), (0, 10 ** 30), (-(10 ** 30), 1), (-2, 1)):
            self.refused(NoPlace, self.PROGRAM, "w", place)

    def test_a_last_gap_is_a_place(self):
        for place in ((0, 2), (1, 1), (2, 1)):
            self.assertIs(is_done(self.PROGRAM, "w", place), True)
            self.assertEqual(need(self.PROGRAM, "w", place)[0], "done")
        self.assertIs(is_done(self.PROGRAM, "w", (1, 0)), False)
        self.assertIs(is_done(self.PROGRAM, "lone", (1, 0)), True)

    def test_no_word_goes_first(self):
        for place in ((0, 3), (-1, 0), (7, 7)):
            self.refused(NoWord, self.PROGRAM, "v", place)

    def test_a_program_without_words(self):
        self.refused(NoWord, one(TELL), "w", (0, 0))
        self.refused(NoWord, one(), "w", (5, 5))


class PaperTests(unittest.TestCase):
    def check(self, program, word, place, entries):
        reader = reader_with(entries)
        kept = copy.deepcopy(reader)
        told = shows_done(program, word, place, reader)
        self.assertEqual(reader, kept)
        asked = asked_by_holds(program, word, place, entries)
        self.assertIs(told, asked <= entries and has_no_late_read(program, reader), (program, word, place, entries))
        return told

    def test_the_holds_of_a_done_one_and_of_a_needed_one(self):
        seen = set()
        for program in busy_programs(50):
            for word in named_words(program):
                for place in places_of(program):
                    done = is_done(program, word, place)
                    reader = holds(program, word, place)
                    self.assertIs(shows_done(program, word, place, reader), done)
                    seen.add(done)
        self.assertEqual(seen, {True, False})

    def test_one_entry_less(self):
        program = one(MAKE, ("pair", "z", "v", "x", "y"), ("first", "y", "z"), ("same", "x", "z"), ("second", "x", "x"))
        entries = entries_of(need(program, "w", (0, 3))[1])
        self.assertIs(self.check(program, "w", (0, 3), entries), True)
        for entry in entries:
            self.assertIs(self.check(program, "w", (0, 3), entries - {entry}), False)
        for program in busy_programs(25):
            for place in places_of(program)[::3]:
                told = need(program, named_words(program)[0], place)
                if told[0] == "done":
                    entries = entries_of(told[1])
                    for entry in sorted(entries, key=repr)[:12]:
                        self.check(program, named_words(program)[0], place, entries - {entry})

    def test_an_end_that_is_read_late(self):
        program = one(MAKE, ("none", "x"), TELL, ("first", "z", "y"), ("second", "y", "z"))
        least = entries_of(holds(program, "w", (0, 2)))
        self.assertIs(self.check(program, "w", (0, 2), least), True)
        later = {n: {((late, k, box),) for k in range(n, 6)} for n, late, box in ((2, 1, "x"), (3, 1, "y"), (4, 1, "z"))}
        for n in later:
            self.assertIs(is_closed(program, "w", (0, 2), reader_with(least | later[n])), True)
            self.assertIs(self.check(program, "w", (0, 2), least | later[n]), False)
        # Ends that are not read there, or not late, stand in a paper as well.
        self.assertIs(self.check(program, "w", (0, 2), least | {((1, k, "x"),) for k in (3, 4, 5)}), True)
        self.assertIs(self.check(program, "w", (0, 2), least | {((0, k, "x"),) for k in (2, 3, 4, 5)}), True)
        self.assertIs(self.check(program, "w", (0, 2), least | {((1, k, "y"),) for k in (5,)}), True)

    def test_entries_more(self):
        seen = set()
        for number, program in enumerate(busy_programs(60)):
            rng = random.Random(number)
            word, place = named_words(program)[0], rng.choice(places_of(program))
            entries = entries_of(holds(program, word, place)) | {drawn_entry(rng, program)}
            seen.add(self.check(program, word, place, entries))
            while not asked_by_holds(program, word, place, entries) <= entries:
                entries |= asked_by_holds(program, word, place, entries)
            seen.add(self.check(program, word, place, entries))
        self.assertEqual(seen, {True, False})

    def test_without_entries(self):
        self.assertIs(shows_done(one(MAKE), "w", (0, 0), ([], [])), False)
        self.assertIs(shows_done(one(MAKE, TELL), "w", (0, 1), ([], [])), False)
        program = (("main", (TELL,)), ("lone", (MAKE, TELL)))
        for place in places_of(program):
            self.assertIs(shows_done(program, "w", place, ([], [])), True)

    def test_of_a_needed_one_no_reader(self):
        program = one(MAKE, TELL)
        seats = [(late, n, box) for late in (0, 1) for n in range(3) for box in "xy"]
        ends = [(seat,) for seat in seats]
        for number in range(1 << len(seats)):
            entries = {end for k, end in enumerate(ends) if number >> k & 1}
            self.assertIs(shows_done(program, "w", (0, 1), reader_with(entries)), False)


class BoundTests(NeedCase):
    def check_within_seconds(self, program, count):
        self.assertIs(is_program(program), True)
        places = places_of(program)
        for word in words_of(program)[:2]:
            for place in places[:: max(1, len(places) // count)]:
                began = time.monotonic()
                told = need(program, word, place)
                self.assertLess(time.monotonic() - began, 8)
                began = time.monotonic()
                self.assertIs(is_done(program, word, place), told[0] == "done")
                if told[0] == "done":
                    self.assertIs(shows_done(program, word, place, told[1]), True)
                else:
                    self.assertTrue(reads_at_last(program, word, place, told[1]))
                self.assertLess(time.monotonic() - began, 8)

    def test_long_straight_programs(self):
        lines = [("pair", "x", "w", "x", "y")] * 24 + [("first", "x", "x")] * 24
        program = one(*lines)
        self.check_within_seconds(program, 50)
        self.check_read(program, "w", (0, 1), 49)
        self.check_read(program, "w", (0, 24), 26)
        self.check_read(program, "w", (0, 47), 49)
        self.check_done(program, "w", (0, 48))
        mixed = [("pair", "x", "u", "y", "z"), ("pair", "y", "v", "x", "y"), ("second", "z", "y"), ("tell", "z")] * 12
        self.check_within_seconds(one(*mixed), 50)

    def test_at_the_bounds(self):
        self.check_within_seconds(widest_program(), 12)
        self.check_within_seconds(deepest_program(), 12)
        for number in range(11):
            self.check_within_seconds(leafy_program(number, 2 + number), 4)

    # Built up by seven, taken apart by eleven: many rounds are needed until just the leaf is left.
    def test_many_rounds(self):
        program = one(
            ("pair", "x", "leaf", "y", "y"), AGAIN, *[("pair", "x", "node", "x", "y")] * 7, END,
            AGAIN, *[("first", "x", "x")] * 11, END, *[("first", "x", "x")] * 5, TELL,
        )
        run = self.check_read(program, "leaf", (0, 28))
        rounds = [len([spot for spot in run if spot[2:] == (k, False)]) for k in (2, 11)]
        # Seven times the one is eleven times the other and five.
        self.assertEqual(rounds, [7, 4])


if __name__ == "__main__":
    unittest.main()
