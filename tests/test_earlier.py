import copy
import random
import time
import unittest

from doneroom.earlier import no_later
from doneroom.manners import all_done, lean
from doneroom.programs import is_program
from doneroom.runs import is_run
from helper import AGAIN, EITHER, END, IDLE, MAKE, OR, OTHER, all_places, all_runs, all_states, bound_programs
from helper import busy_programs, do, drawn_manner, gives_at, making_programs, named_words, one, rooms_by


# The words of rooms that at the run's end the other one has given back and the one has not.
def late_words(program, one_manner, other, run):
    both = zip(rooms_by(program, one_manner, run), rooms_by(program, other, run))
    return {room[0] for room, again in both if room[2] is None and again[2] is not None}


# Whether there is such a run, told anew through all that runs can come to: rooms are kept as (word, given back by the
# one, by the other one).
def is_ever_late(program, one_manner, other):
    def given(kept, spot):
        return {
            (word, by_one or gives_at(one_manner, word, spot), by_other or gives_at(other, word, spot))
            for word, by_one, by_other in kept
        }

    def after(kept, spot, line):
        return frozenset(given(kept, spot) | ({(line[2], False, False)} if line[0] == "pair" else set()))

    states = all_states(program, frozenset(), after)
    return any(not room[1] and room[2] for spot, kept in states for room in given(kept, spot))


class EarlierTests(unittest.TestCase):
    def check_yes(self, program, one_manner, other):
        self.assertEqual(no_later(program, one_manner, other), ("yes",))

    def check_no(self, program, one_manner, other, word=None):
        told = no_later(program, one_manner, other)
        self.assertEqual((type(told), len(told), told[0], type(told[2])), (tuple, 3, "no", list))
        self.assertIs(is_run(program, told[2]), True)
        self.assertIn(told[1], late_words(program, one_manner, other, told[2]))
        if word is not None:
            self.assertEqual(told[1], word)

    def check_both(self, program, one_manner, other):
        late = is_ever_late(program, one_manner, other)
        if late:
            self.check_no(program, one_manner, other)
        else:
            self.check_yes(program, one_manner, other)
        return late

    def test_of_itself(self):
        for number, program in enumerate(busy_programs(30)):
            for manner in ([], all_done(program), lean(program), drawn_manner(random.Random(number), program)):
                self.check_yes(program, manner, manner)

    def test_more_pairs_and_fewer(self):
        program = one(MAKE, IDLE, IDLE)
        self.check_yes(program, [("w", (0, 1)), ("w", (0, 2))], [("w", (0, 2))])
        self.check_yes(program, [("w", (0, 2)), ("w", (0, 3))], [("w", (0, 2))])
        self.check_no(program, [("w", (0, 2))], [("w", (0, 1)), ("w", (0, 2))], "w")
        for number, drawn in enumerate(busy_programs(40)):
            rng = random.Random(number)
            manner = drawn_manner(rng, drawn)
            self.check_yes(drawn, manner, [pair for pair in manner if rng.random() < 0.5])

    def test_without_pairs(self):
        self.check_yes(one(MAKE), [], [])
        self.check_yes(one(MAKE), [("w", (0, 1))], [])
        self.check_no(one(MAKE), [], [("w", (0, 1))], "w")
        self.check_yes(one(MAKE), [], [("w", (0, 0))])
        self.check_yes(one(IDLE), [], [])

    def test_a_place_that_is_always_come_to_first(self):
        program = one(MAKE, IDLE, IDLE, IDLE)
        for gap in (1, 2, 3):
            for other in (1, 2, 3):
                if gap <= other:
                    self.check_yes(program, [("w", (0, gap))], [("w", (0, other))])
                else:
                    self.check_no(program, [("w", (0, gap))], [("w", (0, other))], "w")

    # The givings of the last step are done: at one step is soon enough.
    def test_at_one_step_by_both(self):
        program = (("main", (MAKE, do("p"))), ("p", (IDLE,)))
        self.check_yes(program, [("w", (0, 1))], [("w", (0, 1))])
        self.check_yes(program, [("w", (0, 1))], [("w", (1, 0))])
        self.check_no(program, [("w", (1, 0))], [("w", (0, 1))], "w")

    def test_a_place_that_is_not_always_come_to_first(self):
        program = one(MAKE, EITHER, IDLE, OR, IDLE, END, IDLE)
        self.check_no(program, [("w", (0, 2))], [("w", (0, 6))], "w")
        self.assertIn(((), 0, 4, False), no_later(program, [("w", (0, 2))], [("w", (0, 6))])[2])
        self.check_yes(program, [("w", (0, 2)), ("w", (0, 4))], [("w", (0, 6))])
        self.check_no(program, [("w", (0, 6))], [("w", (0, 2))], "w")

    def test_along_agains(self):
        program = one(MAKE, AGAIN, IDLE, END, IDLE)
        # The again may be passed by without a round.
        self.check_no(program, [("w", (0, 2))], [("w", (0, 4))], "w")
        self.check_yes(program, [("w", (0, 1))], [("w", (0, 4))])
        self.check_yes(program, [("w", (0, 1))], [("w", (0, 2))])
        self.check_no(program, [("w", (0, 4))], [("w", (0, 2))], "w")
        program = one(AGAIN, IDLE, MAKE, IDLE, END)
        # Behind a making the next round comes to gap 1 later than to gap 4.
        self.check_no(program, [("w", (0, 1))], [("w", (0, 4))], "w")
        self.check_yes(program, [("w", (0, 4))], [("w", (0, 1))])
        self.check_no(program, [("w", (0, 1))], [("w", (0, 5))], "w")

    def test_the_word_counts(self):
        program = one(MAKE, OTHER, IDLE)
        self.check_no(program, [("v", (0, 2))], [("w", (0, 2))], "w")
        self.check_no(program, [("w", (0, 2))], [("v", (0, 2))], "v")
        self.check_no(program, [("v", (0, 2)), ("w", (0, 3))], [("v", (0, 3)), ("w", (0, 2))], "w")

    def test_places_that_no_run_comes_to(self):
        program = (("main", (MAKE,)), ("lone", (MAKE, IDLE)))
        self.check_yes(program, [], [("w", (1, 0)), ("w", (1, 1)), ("w", (1, 2))])
        self.check_no(program, [("w", (1, 1))], [("w", (0, 1))], "w")

    def test_given_back_by_the_other_ahead_of_the_last_step(self):
        # The run may end anywhere behind the other one's giving, as long as the one hasn't given back.
        program = one(MAKE, IDLE, IDLE, IDLE)
        told = no_later(program, [("w", (0, 4))], [("w", (0, 2))])
        self.assertIn(len(told[2]), (3, 4))

    def test_through_all_that_runs_can_come_to(self):
        seen = []
        for number, program in enumerate(busy_programs(150) + making_programs(30)):
            rng = random.Random(number)
            for share in (0.15, 0.4, 0.8):
                one_manner = drawn_manner(rng, program, share)
                seen.append(self.check_both(program, one_manner, drawn_manner(rng, program, share / 3)))
        self.assertGreater(min(seen.count(True), seen.count(False)), 100)

    # Single places for one word against each other, on all runs of a bounded length too.
    def test_single_places(self):
        for program in busy_programs(25):
            runs = all_runs(program, 10)
            word = named_words(program)[0]
            for place in all_places(program):
                for other in all_places(program):
                    late = self.check_both(program, [(word, place)], [(word, other)])
                    if any(late_words(program, [(word, place)], [(word, other)], run) for run in runs[::3]):
                        self.assertTrue(late)


class OwnTests(unittest.TestCase):
    def test_nothing_handed_in_is_changed_and_lists_are_new(self):
        program = one(MAKE, IDLE)
        manners = [[("w", (0, 2))], [("w", (0, 1))]]
        kept = copy.deepcopy(manners)
        no_later(program, manners[0], manners[1])[2].clear()
        self.assertEqual(manners, kept)
        self.assertEqual(len(no_later(program, manners[0], manners[1])[2]), 2)


class BoundTests(unittest.TestCase):
    def test_at_the_bounds(self):
        for number, program in enumerate(bound_programs()):
            self.assertIs(is_program(program), True)
            rng = random.Random(number)
            manners = [all_done(program), lean(program), drawn_manner(rng, program), drawn_manner(rng, program, 0.05)]
            for one_manner in manners:
                for other in manners:
                    began = time.monotonic()
                    told = no_later(program, one_manner, other)
                    self.assertLess(time.monotonic() - began, 5)
                    if told != ("yes",):
                        self.assertIn(told[1], late_words(program, one_manner, other, told[2]))
            self.assertEqual(no_later(program, manners[1], manners[0]), ("yes",))


if __name__ == "__main__":
    unittest.main()
