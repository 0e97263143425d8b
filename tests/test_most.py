import copy
import random
import time
import unittest

from doneroom.counts import counted
from doneroom.manners import all_done, lean
from doneroom.most import most
from doneroom.programs import is_program
from doneroom.runs import is_run
from doneroom.tables import shows_most
from helper import AGAIN, EITHER, END, IDLE, MAKE, OR, OTHER, TELL, all_runs, bound_programs, busy_programs
from helper import check_growth, do, drawn_manner, grown_words, is_table_for, making_programs, most_anew, named_words
from helper import one, run_of


class MostCase(unittest.TestCase):
    def check_most(self, program, manner, number):
        told = most(program, manner)
        self.assertEqual((type(told), len(told), told[0]), (tuple, 4, "most"))
        self.assertEqual((type(told[1]), type(told[2]), type(told[3])), (int, list, list))
        self.assertEqual(told[1], number)
        self.assertIs(is_run(program, told[2]), True)
        self.assertEqual(counted(program, manner, told[2])[-1][0], number)
        self.assertTrue(is_table_for(program, manner, told[3]))
        self.assertIs(shows_most(program, manner, number, told[3]), True)
        self.assertIs(shows_most(program, manner, number - 1, told[3]), False)
        return told

    def check_grows(self, program, manner, word):
        told = most(program, manner)
        check_growth(self, program, manner, told)
        self.assertEqual(told[1], word)
        return told


class MostTests(MostCase):
    def test_without_pair_lines(self):
        for program in (one(), one(TELL), one(AGAIN, TELL, END), (("a", (do("b"),)), ("b", (IDLE,)))):
            told = self.check_most(program, [], 0)
            self.assertEqual({words for n, words, number in told[3]}, {()})

    def test_a_pair_line_that_no_run_comes_to(self):
        self.check_most((("main", (TELL,)), ("lone", (MAKE,))), [], 0)

    def test_nothing_given_back(self):
        self.check_most(one(MAKE), [], 1)
        self.check_most(one(MAKE, OTHER, MAKE, IDLE), [], 3)

    def test_given_back_at_the_spot_behind_the_making(self):
        self.check_most(one(MAKE, IDLE), [("w", (0, 1))], 1)
        self.check_most(one(MAKE, MAKE, MAKE), [("w", (0, 1)), ("w", (0, 2)), ("w", (0, 3))], 1)
        self.check_most(one(MAKE, MAKE, MAKE), [("w", (0, 2)), ("w", (0, 3))], 2)
        self.check_most(one(MAKE, OTHER, IDLE), [("w", (0, 2)), ("v", (0, 2))], 2)
        self.check_most(one(MAKE, OTHER, IDLE), [("w", (0, 1)), ("v", (0, 2))], 1)

    def test_in_the_middle_of_a_run(self):
        told = self.check_most(one(MAKE, MAKE, IDLE, OTHER), [("w", (0, 3))], 2)
        self.assertIn(len(told[2]), (3, 4))

    def test_branches(self):
        program = one(EITHER, MAKE, OR, MAKE, OTHER, MAKE, END, MAKE)
        told = self.check_most(program, [], 4)
        self.assertIn(((), 0, 3, False), told[2])
        told = self.check_most(program, [("w", (0, 4))], 3)
        self.assertIn(((), 0, 3, False), told[2])
        self.check_most(program, [("v", (0, 6)), ("w", (0, 4)), ("w", (0, 6))], 2)
        told = self.check_most(program, [("v", (0, 5)), ("w", (0, 4)), ("w", (0, 6))], 2)
        self.assertIn(((), 0, 1, False), told[2])
        program = one(EITHER, MAKE, MAKE, OR, OTHER, END)
        self.assertEqual(self.check_most(program, [], 2)[2][:4], run_of(program, [0])[:4])

    # Different words are at their most on different runs: only one run counts.
    def test_words_on_one_run(self):
        program = one(EITHER, MAKE, MAKE, MAKE, OR, OTHER, OTHER, END)
        self.check_most(program, [], 3)
        program = one(MAKE, MAKE, IDLE, OTHER, OTHER)
        self.check_most(program, [("w", (0, 3))], 2)

    def test_parts_done_several_times(self):
        program = (("main", (do("p"), do("p"), do("p"))), ("p", (MAKE, OTHER)))
        self.check_most(program, [], 6)
        self.check_most(program, [("w", (1, 0))], 4)
        self.check_most(program, [("v", (1, 2)), ("w", (1, 2))], 2)
        self.check_most(program, [("v", (0, 2)), ("w", (0, 2))], 4)

    def test_agains_in_which_all_is_given_back(self):
        program = one(AGAIN, MAKE, OTHER, TELL, END, MAKE)
        manner = [("v", (0, 4)), ("w", (0, 4))]
        self.check_most(program, manner, 2)
        self.check_most(program, [("v", (0, 1)), ("w", (0, 1))], 3)
        self.check_most(program, [("v", (0, 3)), ("w", (0, 2))], 1)

    def test_agains_beside_rooms_that_stay(self):
        program = one(MAKE, MAKE, AGAIN, OTHER, END, MAKE)
        self.check_most(program, [("v", (0, 4))], 3)
        self.check_most(program, [("v", (0, 3))], 4)

    def test_lean_and_all_done_alike(self):
        for program in busy_programs(60):
            one_told, other = most(program, lean(program)), most(program, all_done(program))
            self.assertEqual(one_told[:2], other[:2])

    def test_never_more_on_any_run(self):
        for number, program in enumerate(busy_programs(60)):
            for manner in (lean(program), drawn_manner(random.Random(number), program, 0.5)):
                told = most(program, manner)
                if told[0] == "most":
                    for run in all_runs(program, 11):
                        self.assertLessEqual(max(counted(program, manner, run))[0], told[1])

    def test_through_all_that_runs_can_come_to(self):
        seen = []
        for number, program in enumerate(busy_programs(200) + making_programs(60)):
            rng = random.Random(number)
            for manner in (lean(program), [], drawn_manner(rng, program, 0.3), drawn_manner(rng, program, 0.6)):
                grown = grown_words(program, manner)
                seen.append(most(program, manner)[:2])
                if grown:
                    self.check_grows(program, manner, grown[0])
                else:
                    self.check_most(program, manner, most_anew(program, manner))
        self.assertGreater(len([told for told in seen if told[0] == "grows"]), 60)
        self.assertGreater(len([told for told in seen if told[0] == "most" and told[1] > 2]), 40)


class GrowsTests(MostCase):
    def test_nothing_given_back(self):
        told = self.check_grows(one(AGAIN, MAKE, END), [], "w")
        self.assertEqual(len(set(told[3])), 3)

    def test_given_back_in_the_loop(self):
        for lines in ((IDLE, MAKE, IDLE), (MAKE, IDLE, IDLE), (IDLE, IDLE, MAKE)):
            program = one(IDLE, AGAIN, *lines, END, IDLE)
            for gap in (2, 3, 4, 5):
                # Ahead of the making or behind it: once a round.
                self.check_most(program, [("w", (0, gap))], 1)
            for gap in (0, 1, 6, 7):
                self.check_grows(program, [("w", (0, gap))], "w")

    def test_given_back_in_one_branch_alone(self):
        program = one(AGAIN, MAKE, EITHER, IDLE, OR, TELL, END, END)
        told = self.check_grows(program, [("w", (0, 3))], "w")
        self.assertIn(((), 0, 5, False), told[3])
        self.check_most(program, [("w", (0, 3)), ("w", (0, 5))], 1)
        program = one(AGAIN, EITHER, MAKE, OR, IDLE, END, END)
        self.check_grows(program, [("w", (0, 4))], "w")
        self.check_most(program, [("w", (0, 3))], 1)

    def test_given_back_in_an_again_within(self):
        program = one(AGAIN, MAKE, AGAIN, IDLE, END, END)
        self.check_grows(program, [("w", (0, 3))], "w")
        self.check_most(program, [("w", (0, 2))], 1)
        program = one(AGAIN, IDLE, AGAIN, MAKE, END, END)
        self.check_grows(program, [("w", (0, 1))], "w")

    def test_the_least_word(self):
        program = one(AGAIN, MAKE, OTHER, END)
        self.check_grows(program, [], "v")
        self.check_grows(program, [("v", (0, 1))], "w")
        self.check_grows(program, [("w", (0, 1))], "v")
        program = one(AGAIN, MAKE, END, AGAIN, OTHER, END)
        self.check_grows(program, [], "v")

    def test_the_other_words_may_be_given_back_in_the_round(self):
        program = one(AGAIN, MAKE, OTHER, END)
        told = self.check_grows(program, [("v", (0, gap)) for gap in range(5)], "w")
        self.assertIn(((), 0, 2, False), told[3])

    def test_a_loop_that_no_run_comes_to(self):
        program = (("main", (MAKE,)), ("lone", (AGAIN, MAKE, END)))
        self.check_most(program, [], 1)

    def test_through_a_part(self):
        program = (("main", (AGAIN, do("p"), END, do("p"))), ("p", (MAKE, IDLE)))
        self.check_grows(program, [], "w")
        self.check_grows(program, [("w", (0, 4))], "w")
        self.check_most(program, [("w", (1, 0))], 1)
        self.check_most(program, [("w", (0, 1))], 2)

    def test_a_part_done_in_a_loop_and_outside(self):
        program = (("main", (do("p"), AGAIN, IDLE, END)), ("p", (MAKE,)))
        self.check_most(program, [], 1)


class OwnTests(unittest.TestCase):
    def test_nothing_handed_in_is_changed_and_lists_are_new(self):
        for program in (one(MAKE, IDLE), one(AGAIN, MAKE, END)):
            manner = [("w", (0, 0))]
            told = most(program, manner)
            kept = copy.deepcopy(told)
            self.assertIsNot(told[2], told[3])
            told[2].clear()
            told[3].clear()
            self.assertEqual(manner, [("w", (0, 0))])
            self.assertEqual(most(program, manner), kept)


class BoundTests(MostCase):
    def test_at_the_bounds(self):
        for number, program in enumerate(bound_programs()):
            self.assertIs(is_program(program), True)
            rng = random.Random(number)
            for manner in (all_done(program), lean(program), [], drawn_manner(rng, program), drawn_manner(rng, program, 0.6)):
                began = time.monotonic()
                told = most(program, manner)
                self.assertLess(time.monotonic() - began, 8)
                if told[0] == "grows":
                    check_growth(self, program, manner, told)
                else:
                    self.check_most(program, manner, told[1])

    # All words in all agains, each given back at one place alone: many (n, words).
    def test_many_words_and_agains(self):
        lines = []
        for word in "klmno":
            lines += [("pair", word, word, word, word), AGAIN, EITHER, IDLE, OR, TELL, END, END]
        manner = sorted((word, (0, 8 * at + 3)) for at, word in enumerate("klmno"))
        program = one(AGAIN, *lines, END)
        told = most(program, manner)
        check_growth(self, program, manner, told)
        manner = sorted((word, (0, 8 * at + 2)) for at, word in enumerate("klmno"))
        self.check_most(program, manner, most_anew(program, manner))
        self.assertEqual(len(named_words(program)), 5)


if __name__ == "__main__":
    unittest.main()
