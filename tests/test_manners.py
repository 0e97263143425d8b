import copy
import random
import time
import unittest

from doneroom.counts import counted
from doneroom.earlier import no_later
from doneroom.flats import flat
from doneroom.manners import all_done, first_given, lean
from doneroom.needs import is_done
from doneroom.programs import is_program, places_of, words_of
from doneroom.runs import is_run
from helper import AGAIN, EITHER, END, IDLE, MAKE, OR, OTHER, TELL, all_runs, bound_programs, busy_programs, do
from helper import drawn_choices, drawn_manner, gives_at, making_programs, named_line, named_words, one, plain_run
from helper import rooms_by, run_of, used_at


def places(manner, word):
    return [place for other, place in manner if other == word]


# Of each word the gaps of the first part.
def gaps(manner, word, part=0):
    return [place[1] for place in places(manner, word) if place[0] == part]


# Whether on the run a room is read that was given back by the manner.
def reads_given(program, manner, run):
    rooms, reads, told, boxes = plain_run(program, run)
    given = [room[2] for room in rooms_by(program, manner, run)]
    return any(given[rooms.index(room)] is not None and given[rooms.index(room)] <= step for step, room in reads)


# The pairs by which on some run a room is given back, told anew through all that runs can come to.
def giving_pairs(program, manner):
    used = used_at(program, manner)
    return sorted({(word, spot[1:3]) for word, spot in used if gives_at(manner, word, spot)})


class AllDoneTests(unittest.TestCase):
    def check(self, program):
        told = all_done(program)
        self.assertIs(type(told), list)
        words = named_words(program)
        pairs = [(word, place) for word in words for place in places_of(program) if is_done(program, word, place)]
        self.assertEqual(told, pairs)
        self.assertEqual(told, sorted(set(told)))
        return told

    def test_made_and_read(self):
        self.assertEqual(all_done(one(MAKE, TELL)), [("w", (0, 0)), ("w", (0, 2))])
        self.assertEqual(all_done(one(MAKE, IDLE, TELL, IDLE)), [("w", (0, 0)), ("w", (0, 3)), ("w", (0, 4))])

    def test_several_words_rise(self):
        program = one(MAKE, OTHER, TELL, ("tell", "z"))
        self.assertEqual(gaps(self.check(program), "w"), [0, 3, 4])
        self.assertEqual(gaps(self.check(program), "v"), [0, 1, 4])
        self.assertEqual([word for word, place in all_done(program)], ["v"] * 3 + ["w"] * 3)

    def test_without_pair_lines(self):
        for program in (one(), one(TELL), one(AGAIN, ("first", "x", "y"), END), (("a", (do("b"),)), ("b", (IDLE,)))):
            self.assertEqual(all_done(program), [])
            self.assertEqual(lean(program), [])

    def test_never_read(self):
        self.assertEqual(all_done(one(MAKE, IDLE)), [("w", (0, 0)), ("w", (0, 1)), ("w", (0, 2))])

    def test_places_of_parts_that_no_do_names(self):
        program = (("main", (MAKE, TELL)), ("lone", (TELL, TELL)))
        pairs = [("w", (0, 0)), ("w", (0, 2)), ("w", (1, 0)), ("w", (1, 1)), ("w", (1, 2))]
        self.assertEqual(self.check(program), pairs)

    def test_words_whose_pair_line_no_run_comes_to(self):
        program = (("main", (MAKE, TELL)), ("lone", (("pair", "x", "lone", "y", "y"), TELL)))
        self.assertEqual(places(self.check(program), "lone"), places_of(program))
        self.assertEqual(places(all_done(program), "w"), [(0, 0), (0, 2), (1, 0), (1, 1), (1, 2)])

    def test_chains_taken_apart_again(self):
        wrap, unwrap = ("pair", "x", "node", "x", "y"), ("first", "x", "x")
        program = one(("pair", "x", "leaf", "y", "y"), AGAIN, wrap, END, AGAIN, unwrap, END, TELL)
        self.assertEqual(gaps(self.check(program), "leaf"), [0, 8])
        self.assertEqual(gaps(all_done(program), "node"), [0, 1, 8])
        program = one(("pair", "x", "leaf", "y", "y"), *[wrap] * 20, *[unwrap] * 20, IDLE)
        self.assertEqual(gaps(self.check(program), "leaf"), [0] + list(range(1, 43)))
        self.assertEqual(gaps(all_done(program), "node"), [0, 1, 41, 42])
        program = one(("pair", "x", "leaf", "y", "y"), *[wrap] * 20, *[unwrap] * 19, TELL)
        self.assertEqual(gaps(all_done(program), "leaf"), list(range(42)))
        program = one(("pair", "x", "leaf", "y", "y"), *[wrap] * 20, *[unwrap] * 20, TELL)
        self.assertEqual(gaps(all_done(program), "leaf"), [0, 42])

    def test_within_other_rooms_by_each_letter(self):
        for letter, part in ((1, "first"), (2, "second")):
            outer = ("pair", "z", "v", "x", "y") if letter == 1 else ("pair", "z", "v", "y", "x")
            program = one(MAKE, outer, ("none", "x"), (part, "x", "z"), ("none", "z"), TELL)
            self.assertEqual(gaps(self.check(program), "w"), [0, 6])
            self.assertEqual(gaps(all_done(program), "v"), [0, 1, 4, 5, 6])
            # The other one of the two is nothing.
            other = ("second" if letter == 1 else "first", "x", "z")
            program = one(MAKE, outer, ("none", "x"), other, ("none", "z"), TELL)
            self.assertEqual(gaps(self.check(program), "w"), list(range(7)))

    def test_an_end_of_one_way_of_a_part(self):
        # Behind the first do w is still read, so it is nowhere done in the part.
        program = (("main", (MAKE, do("p"), do("p"))), ("p", (TELL,)))
        self.assertEqual(places(self.check(program), "w"), [(0, 0), (0, 3)])

    def test_just_where_is_done_tells_so(self):
        for program in busy_programs(80) + making_programs(25):
            with self.subTest(program=program):
                self.check(program)

    def test_safe_on_every_run(self):
        for program in busy_programs(60):
            manner = all_done(program)
            for run in all_runs(program, 12):
                self.assertFalse(reads_given(program, manner, run), (program, run))

    # One pair more makes a run on which a room is read that was given back.
    def test_no_pair_more_is_safe(self):
        checked = 0
        for program in busy_programs(60):
            runs = all_runs(program, 13)
            for pair in [(word, place) for word in words_of(program) for place in places_of(program)]:
                if pair not in all_done(program):
                    checked += any(reads_given(program, [pair], run) for run in runs)
        self.assertGreater(checked, 100)


class LeanTests(unittest.TestCase):
    def check(self, program):
        told = lean(program)
        self.assertIs(type(told), list)
        self.assertEqual(told, giving_pairs(program, all_done(program)))
        return told

    def test_only_the_first_place_behind_the_reading(self):
        self.assertEqual(self.check(one(MAKE, TELL, IDLE, IDLE)), [("w", (0, 2))])
        self.assertEqual(self.check(one(IDLE, MAKE, IDLE, TELL)), [("w", (0, 4))])

    def test_the_spot_behind_the_making(self):
        self.assertEqual(self.check(one(MAKE, IDLE)), [("w", (0, 1))])
        self.assertEqual(self.check(one(MAKE)), [("w", (0, 1))])

    def test_a_word_made_anew(self):
        # By all of w or none: behind the second making the first room isn't given back ahead of the second reading.
        self.assertEqual(self.check(one(MAKE, TELL, MAKE, TELL)), [("w", (0, 2)), ("w", (0, 4))])
        self.assertEqual(self.check(one(MAKE, MAKE, TELL)), [("w", (0, 1)), ("w", (0, 3))])

    def test_several_words(self):
        program = one(MAKE, OTHER, TELL, ("tell", "z"), IDLE)
        self.assertEqual(self.check(program), [("v", (0, 4)), ("w", (0, 3))])

    def test_either(self):
        program = one(MAKE, EITHER, TELL, OR, IDLE, END, IDLE)
        # By the first branch given back at the or, by the second one at once.
        self.assertEqual(self.check(program), [("w", (0, 3)), ("w", (0, 4))])
        program = one(MAKE, EITHER, TELL, OR, IDLE, END, TELL)
        self.assertEqual(self.check(program), [("w", (0, 7))])

    def test_along_agains(self):
        program = one(MAKE, AGAIN, TELL, END, IDLE)
        self.assertEqual(self.check(program), [("w", (0, 4))])
        program = one(AGAIN, MAKE, TELL, END, IDLE)
        self.assertEqual(self.check(program), [("w", (0, 3))])
        # Made at the end of a round, read at the next one's beginning, or left behind.
        program = one(AGAIN, TELL, MAKE, END, IDLE)
        self.assertEqual(self.check(program), [("w", (0, 2)), ("w", (0, 4))])

    def test_parts_done_several_times(self):
        program = (("main", (MAKE, do("p"), do("p"), IDLE)), ("p", (TELL,)))
        self.assertEqual(self.check(program), [("w", (0, 3))])
        program = (("main", (do("p"), TELL, do("p"), IDLE)), ("p", (MAKE,)))
        self.assertEqual(self.check(program), [("w", (0, 2)), ("w", (0, 3))])
        program = (("main", (do("p"), do("p"))), ("p", (MAKE, TELL)))
        self.assertEqual(self.check(program), [("w", (1, 2))])

    def test_nothing_of_what_no_run_comes_to(self):
        program = (("main", (MAKE, TELL)), ("lone", (("pair", "x", "lone", "y", "y"), TELL)))
        self.assertEqual(self.check(program), [("w", (0, 2))])

    def test_just_the_pairs_that_give_back(self):
        sizes = [len(self.check(program)) for program in busy_programs(120) + making_programs(40)]
        self.assertGreater(max(sizes), 5)

    def test_as_many_rooms_in_use_as_by_all_done(self):
        for program in busy_programs(60):
            for run in all_runs(program, 11):
                self.assertEqual(counted(program, lean(program), run), counted(program, all_done(program), run))
        for number, program in enumerate(making_programs(60)):
            run = run_of(program, drawn_choices(number, 25))
            self.assertEqual(counted(program, lean(program), run), counted(program, all_done(program), run))


# The safe manners are those of done pairs alone.
class FewestRoomsTests(unittest.TestCase):
    def check(self, program, manner, run):
        fewest = counted(program, lean(program), run)
        for few, many in zip(fewest, counted(program, manner, run)):
            self.assertLessEqual(few[0], many[0])
            self.assertLessEqual(few[1], many[1])
        own = rooms_by(program, lean(program), run)
        for room, other in zip(own, rooms_by(program, manner, run)):
            if other[2] is not None:
                self.assertLessEqual(room[2], other[2])

    def test_no_safe_manner_gives_a_room_back_sooner(self):
        for number, program in enumerate(busy_programs(60)):
            rng = random.Random(number)
            for share in (0.2, 0.7):
                manner = [pair for pair in all_done(program) if rng.random() < share]
                self.assertEqual(no_later(program, lean(program), manner), ("yes",))
                self.assertEqual(no_later(program, all_done(program), manner), ("yes",))
                for run in all_runs(program, 10):
                    self.check(program, manner, run)

    # The flat program's places tell the ways of a part apart: on the same choices never more rooms are in use.
    def test_the_flat_program_by_its_lean_manner(self):
        fewer = 0
        for number, program in enumerate(making_programs(30) + [p for p in busy_programs(250) if len(p) > 1]):
            for draw in range(3):
                choices = drawn_choices(10 * number + draw, 20)
                run, flat_run = run_of(program, choices), run_of(flat(program), choices)
                own = counted(program, lean(program), run)
                flat_own = counted(flat(program), lean(flat(program)), flat_run)
                groups = flat_groups(program, run)
                self.assertEqual(len(groups), len(flat_run))
                for group, numbers in zip(groups, flat_own):
                    self.assertLessEqual(numbers[0], own[group[0]][0])
                    self.assertLessEqual(numbers[1], own[group[-1]][1])
                    fewer += numbers[1] < own[group[-1]][1]
        self.assertGreater(fewer, 0)

    def test_a_part_that_is_needed_by_one_way_alone(self):
        program = (("main", (do("p"), TELL, do("p"), IDLE)), ("p", (MAKE, IDLE)))
        self.assertEqual(counted(program, lean(program), run_of(program))[-2:], [(1, 0), (0, 0)])
        self.assertEqual(counted(flat(program), lean(flat(program)), run_of(flat(program)))[4], (1, 0))
        self.assertEqual(max(counted(program, lean(program), run_of(program))), (1, 1))


# The steps of the run, those put together that are one step of the flat program's run.
def flat_groups(program, run):
    groups = [[]]
    for step, spot in enumerate(run):
        groups[-1].append(step)
        line = named_line(program, spot)
        if line[0] != "do" and not (spot[0] and spot[2] == len(program[spot[1]][1]) and not spot[3]):
            groups.append([])
    return groups[:-1] if not groups[-1] else groups


class FirstGivenTests(unittest.TestCase):
    def check(self, program, manner, word, place):
        run = first_given(program, manner, word, place)
        if run is not None:
            self.assertIs(type(run), list)
            self.assertIs(is_run(program, run), True)
            self.assertIs(run[-1][3], False)
            self.assertEqual(run[-1][1:3], place)
            given = [room for room in rooms_by(program, manner, run) if room[0] == word and room[2] == len(run) - 1]
            self.assertTrue(given, (program, manner, word, place, run))
        return run

    def test_just_behind_the_making(self):
        manner = [("w", (0, 1))]
        self.assertEqual(self.check(one(MAKE, TELL), manner, "w", (0, 1)), run_of(one(MAKE, TELL))[:2])

    def test_later(self):
        program = one(IDLE, MAKE, TELL, IDLE)
        self.assertEqual(self.check(program, [("w", (0, 3))], "w", (0, 3)), run_of(program)[:4])

    def test_come_to_with_no_room_in_use(self):
        program = one(IDLE, MAKE, TELL, IDLE)
        self.assertIsNone(self.check(program, [("w", (0, 0))], "w", (0, 0)))
        self.assertIsNone(self.check(program, [("w", (0, 1))], "w", (0, 1)))
        self.assertIsNone(self.check(program, [("w", (0, 3)), ("w", (0, 4))], "w", (0, 4)))
        self.assertIsNone(self.check(program, [("w", (0, 2)), ("w", (0, 4))], "w", (0, 4)))

    def test_a_pair_that_the_manner_lacks(self):
        self.assertIsNone(first_given(one(MAKE, IDLE), [], "w", (0, 1)))
        self.assertIsNone(first_given(one(MAKE, IDLE), [("w", (0, 2))], "w", (0, 1)))

    def test_another_word_in_between(self):
        program = one(MAKE, OTHER, IDLE, IDLE)
        manner = [("v", (0, 2)), ("w", (0, 3))]
        self.assertEqual(self.check(program, manner, "w", (0, 3)), run_of(program)[:4])
        self.assertEqual(self.check(program, manner, "v", (0, 2)), run_of(program)[:3])

    def test_a_place_that_no_run_comes_to(self):
        program = (("main", (MAKE, TELL)), ("lone", (TELL, ("pair", "x", "u", "y", "y"))))
        self.assertIsNone(self.check(program, [("w", (1, 0))], "w", (1, 0)))
        self.assertIsNone(self.check(program, [("u", (1, 2))], "u", (1, 2)))
        self.assertIsNone(self.check(program, [("u", (0, 2))], "u", (0, 2)))

    def test_a_making_anew_behind_a_giving(self):
        program = one(MAKE, IDLE, MAKE, IDLE, IDLE)
        manner = [("w", (0, 2)), ("w", (0, 4))]
        self.assertEqual(self.check(program, manner, "w", (0, 2)), run_of(program)[:3])
        self.assertEqual(self.check(program, manner, "w", (0, 4)), run_of(program)[:5])

    def test_round_an_again(self):
        program = one(AGAIN, IDLE, MAKE, END)
        run = self.check(program, [("w", (0, 1))], "w", (0, 1))
        self.assertEqual(len([spot for spot in run if spot == ((), 0, 2, False)]), 1)
        self.assertEqual(run[-1], ((), 0, 1, False))
        # Behind the making the end comes first.
        self.assertIsNone(self.check(program, [("w", (0, 1)), ("w", (0, 3))], "w", (0, 1)))

    def test_another_branch(self):
        program = one(MAKE, EITHER, IDLE, OR, TELL, END, IDLE)
        manner = [("w", (0, 2)), ("w", (0, 6))]
        self.assertIn(((), 0, 4, False), self.check(program, manner, "w", (0, 6)))
        self.assertIsNone(self.check(program, [("w", (0, 2)), ("w", (0, 4)), ("w", (0, 6))], "w", (0, 6)))

    def test_of_each_pair(self):
        found = []
        for number, program in enumerate(busy_programs(120) + making_programs(40)):
            rng = random.Random(number)
            for manner in (drawn_manner(rng, program), drawn_manner(rng, program, 0.1), lean(program)):
                giving = giving_pairs(program, manner)
                for word, place in manner:
                    run = self.check(program, manner, word, place)
                    self.assertEqual(run is not None, (word, place) in giving, (program, manner, word, place))
                    found.append(run is not None)
        self.assertGreater(min(found.count(True), found.count(False)), 300)

    def test_of_each_pair_of_the_lean_manner_there_is_one(self):
        for program in busy_programs(60):
            for word, place in lean(program):
                self.assertIsNotNone(self.check(program, all_done(program), word, place))
                self.assertIsNotNone(self.check(program, lean(program), word, place))


class OwnTests(unittest.TestCase):
    def test_nothing_handed_in_is_changed_and_lists_are_new(self):
        program = one(MAKE, TELL, OTHER)
        for function in (all_done, lean):
            function(program).clear()
            self.assertNotEqual(function(program), [])
        manner = all_done(program)
        kept = copy.deepcopy(manner)
        first_given(program, manner, "w", (0, 2)).clear()
        self.assertEqual(manner, kept)
        self.assertNotEqual(first_given(program, manner, "w", (0, 2)), [])


class BoundTests(unittest.TestCase):
    def check_within_seconds(self, function, *things):
        began = time.monotonic()
        told = function(*things)
        self.assertLess(time.monotonic() - began, 8)
        return told

    def test_at_the_bounds(self):
        for program in bound_programs():
            self.assertIs(is_program(program), True)
            manner = self.check_within_seconds(all_done, program)
            self.assertEqual(self.check_within_seconds(lean, program), giving_pairs(program, manner))
            for word, place in manner[::20]:
                self.check_within_seconds(first_given, program, manner, word, place)


if __name__ == "__main__":
    unittest.main()
