import copy
import random
import time
import unittest

from doneroom.errors import NoPlace, NoWord
from doneroom.judges import judged
from doneroom.manners import all_done, lean
from doneroom.needs import is_done, need
from doneroom.papers import shows_done
from doneroom.programs import is_program
from doneroom.runs import is_run
from helper import AGAIN, END, IDLE, MAKE, OTHER, TELL, asked_by_holds, bound_programs, busy_programs, do
from helper import drawn_manner, entries_of, has_no_late_read, is_well_formed, making_programs, one, reads_at_last
from helper import run_of


class JudgeCase(unittest.TestCase):
    def check_safe(self, program, manner):
        told = judged(program, manner)
        self.assertEqual((type(told), len(told), told[0], type(told[1])), (tuple, 2, "safe", list))
        self.assertEqual([entry[:2] for entry in told[1]], manner)
        for entry in told[1]:
            self.assertEqual((type(entry), len(entry)), (tuple, 3))
            word, place, paper = entry
            self.assertTrue(is_well_formed(paper))
            self.assertLessEqual(asked_by_holds(program, word, place, entries_of(paper)), entries_of(paper))
            self.assertTrue(has_no_late_read(program, paper))
            self.assertIs(shows_done(program, word, place, paper), True)

    def check_gone(self, program, manner, pair, size=None):
        told = judged(program, manner)
        self.assertEqual((type(told), len(told)), (tuple, 4))
        self.assertEqual(told[:3], ("gone",) + pair)
        self.assertIs(type(told[3]), list)
        self.assertIs(is_run(program, told[3]), True)
        self.assertTrue(reads_at_last(program, pair[0], pair[1], told[3]))
        self.assertEqual(len(told[3]), len(need(program, pair[0], pair[1])[1]) if size is None else size)


class JudgeTests(JudgeCase):
    def test_without_pairs(self):
        for program in (one(), one(MAKE, TELL), (("a", (do("b"),)), ("b", (MAKE, TELL)))):
            self.assertEqual(judged(program, []), ("safe", []))

    def test_safe(self):
        program = one(MAKE, OTHER, TELL, ("tell", "z"))
        self.check_safe(program, [("w", (0, 3))])
        self.check_safe(program, [("v", (0, 0)), ("v", (0, 4)), ("w", (0, 0)), ("w", (0, 3)), ("w", (0, 4))])

    def test_places_that_no_run_comes_to(self):
        program = (("main", (MAKE, TELL)), ("lone", (("pair", "x", "lone", "y", "y"), TELL)))
        self.check_safe(program, all_done(program))
        self.assertEqual(len(judged(program, all_done(program))[1]), 11)

    def test_the_first_pair_that_is_not_done(self):
        program = one(MAKE, OTHER, TELL, ("tell", "z"))
        self.check_gone(program, [("w", (0, 1))], ("w", (0, 1)), 4)
        self.check_gone(program, [("v", (0, 0)), ("v", (0, 2)), ("w", (0, 1))], ("v", (0, 2)), 5)
        self.check_gone(program, [("v", (0, 1)), ("v", (0, 4)), ("w", (0, 0)), ("w", (0, 2))], ("w", (0, 2)), 4)
        self.check_gone(program, [("w", (0, 0)), ("w", (0, 1)), ("w", (0, 2))], ("w", (0, 1)), 4)

    def test_a_shortest_run(self):
        program = one(MAKE, AGAIN, IDLE, END, TELL, TELL)
        self.check_gone(program, [("w", (0, 2))], ("w", (0, 2)), 8)
        self.check_gone(program, [("w", (0, 1))], ("w", (0, 1)), 5)
        self.check_gone(program, [("w", (0, 5))], ("w", (0, 5)), 6)
        self.assertEqual(judged(program, [("w", (0, 1))])[3], run_of(program, [0])[:5])

    # A pair is judged by itself: whether other pairs give back ahead of it changes nothing.
    def test_pairs_by_themselves(self):
        program = one(MAKE, TELL, TELL)
        self.check_gone(program, [("w", (0, 1)), ("w", (0, 2))], ("w", (0, 1)), 3)
        self.check_gone(program, [("w", (0, 2))], ("w", (0, 2)), 4)

    def test_drawn_manners(self):
        seen = []
        for number, program in enumerate(busy_programs(60) + making_programs(15)):
            rng = random.Random(number)
            safe = [pair for pair in all_done(program) if rng.random() < 0.5]
            self.check_safe(program, safe)
            self.check_safe(program, lean(program))
            manner = sorted(set(drawn_manner(rng, program, 0.1) + safe))
            wrong = [pair for pair in manner if not is_done(program, pair[0], pair[1])]
            seen.append(bool(wrong))
            if wrong:
                self.check_gone(program, manner, wrong[0])
            else:
                self.check_safe(program, manner)
        self.assertGreaterEqual(min(seen.count(True), seen.count(False)), 8)


class RefusalTests(unittest.TestCase):
    def check(self, error, program, manner):
        with self.assertRaises(error) as caught:
            judged(program, manner)
        self.assertIs(type(caught.exception), error)

    def test_a_word_that_no_pair_line_has(self):
        for word in ("v", "x", "main", "", "W", "no name"):
            self.check(NoWord, one(MAKE, TELL), [(word, (0, 0))])
        self.check(NoWord, one(TELL), [("w", (0, 0))])

    def test_a_place_that_there_is_not(self):
        for place in ((0, 3), (1, 0), (0, -1), (-1, 0), (9, 9)):
            self.check(NoPlace, one(MAKE, TELL), [("w", place)])

    def test_both_in_one_pair(self):
        self.check(NoWord, one(MAKE, TELL), [("v", (0, 3))])

    def test_by_the_first_pair_at_fault(self):
        self.check(NoPlace, one(MAKE, TELL), [("w", (0, 3)), ("z", (0, 0))])
        self.check(NoWord, one(MAKE, TELL), [("v", (0, 0)), ("w", (0, 3))])
        self.check(NoWord, one(MAKE, TELL), [("v", (0, 9)), ("w", (0, 3))])
        self.check(NoPlace, one(MAKE, TELL), [("w", (0, 0)), ("w", (0, 2)), ("w", (0, 3)), ("z", (0, 3))])

    def test_ahead_of_a_pair_that_is_not_done(self):
        self.check(NoWord, one(MAKE, TELL), [("w", (0, 1)), ("z", (0, 0))])
        self.check(NoPlace, one(MAKE, TELL), [("w", (0, 1)), ("w", (0, 3))])


class OwnTests(unittest.TestCase):
    def test_each_paper_its_own(self):
        program = (("main", (MAKE, TELL, OTHER)), ("lone", (TELL, TELL)))
        told = judged(program, all_done(program))[1]
        lists = [part for word, place, paper in told for part in paper]
        self.assertEqual(len({id(part) for part in lists}), 2 * len(told))
        for part in lists:
            part.clear()
        self.assertNotEqual(judged(program, all_done(program))[1], told)

    def test_nothing_handed_in_is_changed(self):
        program = one(MAKE, TELL, OTHER)
        for manner in (all_done(program), [("w", (0, 1))]):
            kept = copy.deepcopy(manner)
            told = judged(program, manner)
            told[-1].clear()
            self.assertEqual(manner, kept)
            self.assertNotEqual(judged(program, manner), told)


class BoundTests(unittest.TestCase):
    def test_at_the_bounds(self):
        for program in bound_programs():
            self.assertIs(is_program(program), True)
            began = time.monotonic()
            told = judged(program, all_done(program))
            self.assertLess(time.monotonic() - began, 30)
            self.assertEqual((told[0], len(told[1])), ("safe", len(all_done(program))))
            began = time.monotonic()
            for word, place, paper in judged(program, lean(program))[1][:6]:
                self.assertIs(shows_done(program, word, place, paper), True)
            self.assertLess(time.monotonic() - began, 10)


if __name__ == "__main__":
    unittest.main()
