import copy
import random
import time
import unittest

from doneroom.manners import all_done, lean
from doneroom.programs import is_program, places_of, words_of
from doneroom.puts import put_in, taken_out
from doneroom.shows import show_program
from helper import AGAIN, EITHER, END, IDLE, MAKE, OR, OTHER, TELL, THIRD, all_edges, back, bound_programs
from helper import busy_programs, do, drawn_manner, drawn_program, drawn_programs, making_programs, one, run_of
from helper import without_backs


class PutInTests(unittest.TestCase):
    def test_without_pairs(self):
        for program in (one(), one(MAKE, TELL), (("a", (do("b"),)), ("b", (MAKE,)))):
            self.assertEqual(put_in(program, []), program)

    def test_at_the_first_gap(self):
        self.assertEqual(put_in(one(MAKE, TELL), [("w", (0, 0))]), one(back("w"), MAKE, TELL))

    def test_at_the_last_gap(self):
        self.assertEqual(put_in(one(MAKE, TELL), [("w", (0, 2))]), one(MAKE, TELL, back("w")))

    def test_ahead_of_the_line_that_stands_there(self):
        self.assertEqual(put_in(one(MAKE, TELL), [("w", (0, 1))]), one(MAKE, back("w"), TELL))

    def test_several_words_of_one_place_rise(self):
        manner = [("u", (0, 3)), ("v", (0, 3)), ("w", (0, 0)), ("w", (0, 3))]
        program = one(MAKE, OTHER, THIRD, TELL)
        told = one(back("w"), MAKE, OTHER, THIRD, back("u"), back("v"), back("w"), TELL)
        self.assertEqual(put_in(program, manner), told)

    def test_one_word_at_each_place(self):
        manner = [("w", (0, gap)) for gap in range(3)]
        self.assertEqual(put_in(one(MAKE, TELL), manner), one(back("w"), MAKE, back("w"), TELL, back("w")))

    def test_places_of_several_parts(self):
        program = (("main", (MAKE, do("p"))), ("p", (TELL,)), ("lone", ()))
        manner = [("w", (0, 1)), ("w", (1, 1)), ("w", (2, 0))]
        told = (("main", (MAKE, back("w"), do("p"))), ("p", (TELL, back("w"))), ("lone", (back("w"),)))
        self.assertEqual(put_in(program, manner), told)

    def test_at_the_lines_of_blocks(self):
        program = one(MAKE, EITHER, OR, AGAIN, END, END)
        manner = [("w", (0, gap)) for gap in range(1, 7)]
        w = back("w")
        self.assertEqual(put_in(program, manner), one(MAKE, w, EITHER, w, OR, w, AGAIN, w, END, w, END, w))

    def test_a_program_again(self):
        for program in bound_programs() + making_programs(20):
            words = [(word, place) for word in words_of(program) for place in places_of(program)]
            for manner in (words, all_done(program), lean(program)):
                self.assertIs(is_program(put_in(program, manner)), True)

    # A run of what was put in goes through the back lines just where the plain one comes to their places.
    def test_runs_come_to_the_back_lines_at_their_places(self):
        for number, program in enumerate(busy_programs(40)):
            manner = drawn_manner(random.Random(number), program)
            given = put_in(program, manner)
            for choices in ([0] * 6, [1, 0] * 4, [0, 1, 1] * 3):
                run, longer = run_of(program, choices), run_of(given, choices)
                self.assertEqual(givings_along(given, longer), manner_along(manner, run))


# The words of the back lines at which the run comes by, in a list.
def givings_along(program, run):
    lines = [program[spot[1]][1][spot[2]:spot[2] + 1] for spot in run if not spot[3]]
    return [line[0][1] for line in lines if line and line[0][0] == "back"]


def manner_along(manner, run):
    return [word for spot in run for word, place in manner if spot[3] is False and spot[1:3] == place]


class TakenOutTests(unittest.TestCase):
    def test_without_back_lines(self):
        for program in (one(), one(MAKE, TELL), (("a", (do("b"),)), ("b", (MAKE,)))):
            self.assertEqual(taken_out(program), (program, []))

    def test_places_by_the_program_without_them(self):
        program = one(back("w"), MAKE, back("w"), back("w"), TELL, back("w"))
        self.assertEqual(taken_out(program), (one(MAKE, TELL), [("w", (0, 0)), ("w", (0, 1)), ("w", (0, 2))]))

    def test_in_any_order_and_twice_the_same(self):
        program = one(MAKE, OTHER, back("w"), back("v"), back("w"), back("v"), TELL)
        self.assertEqual(taken_out(program), (one(MAKE, OTHER, TELL), [("v", (0, 2)), ("w", (0, 2))]))

    def test_sorted_by_words_first(self):
        program = one(back("w"), MAKE, back("v"), OTHER, back("v"), back("w"))
        pairs = [("v", (0, 1)), ("v", (0, 2)), ("w", (0, 0)), ("w", (0, 2))]
        self.assertEqual(taken_out(program), (one(MAKE, OTHER), pairs))

    def test_words_that_no_pair_line_has(self):
        program = one(back("v"), MAKE, back("v"), back("w"), back("x"))
        self.assertEqual(taken_out(program), (one(MAKE), [("w", (0, 1))]))
        self.assertEqual(taken_out(one(back("w"), TELL, back("w"))), (one(TELL), []))

    def test_a_word_of_a_pair_line_that_no_run_comes_to(self):
        program = (("main", (back("w"), TELL)), ("lone", (MAKE, back("w"))))
        self.assertEqual(taken_out(program), ((("main", (TELL,)), ("lone", (MAKE,))), [("w", (0, 0)), ("w", (1, 1))]))

    def test_within_blocks_and_at_the_end_of_parts(self):
        w = back("w")
        program = (("main", (MAKE, AGAIN, w, EITHER, w, OR, w, END, w, END, do("p"), w)), ("p", (w, IDLE, w)))
        plain, manner = taken_out(program)
        self.assertEqual(plain, (("main", (MAKE, AGAIN, EITHER, OR, END, END, do("p"))), ("p", (IDLE,))))
        places = [(0, 2), (0, 3), (0, 4), (0, 5), (0, 7), (1, 0), (1, 1)]
        self.assertEqual(manner, [("w", place) for place in places])

    def test_only_back_lines(self):
        program = (("a", (back("w"), back("w"))), ("b", (MAKE,)))
        self.assertEqual(taken_out(program), ((("a", ()), ("b", (MAKE,))), [("w", (0, 0))]))

    def test_what_was_put_in_is_taken_out_again(self):
        for number, program in enumerate(busy_programs(60) + making_programs(40) + bound_programs()):
            rng = random.Random(number)
            for manner in ([], all_done(program), lean(program), drawn_manner(rng, program), drawn_manner(rng, program, 1)):
                self.assertEqual(taken_out(put_in(program, manner)), (program, manner))

    # What was taken out of a drawn program and put in again differs by nothing but the order of back lines.
    def test_what_was_taken_out_is_put_in_again(self):
        for program in drawn_programs(80):
            plain, manner = taken_out(program)
            self.assertEqual(plain, without_backs(program))
            self.assertEqual(manner, sorted(set(manner)))
            self.assertEqual(taken_out(put_in(plain, manner)), (plain, manner))
            made = words_of(program)
            self.assertEqual(back_groups(put_in(plain, manner), made), back_groups(program, made))


# Of each part its other lines, and the set of words of the back lines ahead of each and at the end.
def back_groups(program, made):
    told = []
    for name, lines in program:
        groups = [set()]
        for line in lines:
            if line[0] == "back":
                groups[-1] |= {line[1]} & set(made)
            else:
                groups += [line, set()]
        told.append((name, groups))
    return told


class OwnTests(unittest.TestCase):
    def test_nothing_handed_in_is_changed_and_lists_are_new(self):
        program = one(MAKE, TELL)
        manner = [("w", (0, 0)), ("w", (0, 2))]
        kept = copy.deepcopy(manner)
        given = put_in(program, manner)
        self.assertEqual(manner, kept)
        taken_out(given)[1].clear()
        self.assertEqual(taken_out(given), (program, manner))

    def test_kinds(self):
        given = put_in(drawn_program(3), [])
        self.assertIs(type(given), tuple)
        self.assertTrue(all(type(part) is tuple and type(part[1]) is tuple for part in given))
        told = taken_out(given)
        self.assertEqual((type(told), type(told[0]), type(told[1])), (tuple, tuple, list))
        self.assertTrue(show_program(told[0]))
        self.assertTrue(all_edges(told[0]))

    def test_at_the_bounds(self):
        for program in bound_programs():
            began = time.monotonic()
            manner = [(word, place) for word in words_of(program) for place in places_of(program)]
            self.assertEqual(taken_out(put_in(program, manner)), (program, manner))
            self.assertLess(time.monotonic() - began, 5)


if __name__ == "__main__":
    unittest.main()
