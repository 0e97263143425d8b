import copy
import random
import time
import unittest

from doneroom.manners import all_done, lean
from doneroom.most import most
from doneroom.spots import spots
from doneroom.tables import shows_most
from helper import AGAIN, EITHER, END, IDLE, MAKE, OR, OTHER, bound_programs, busy_programs, do, drawn_manner
from helper import grown_words, is_table_for, making_programs, most_anew, named_words, one

W, VW = ("w",), ("v", "w")

# Program, manner, number and the least table by which it is shown.
STRAIGHT_TABLE = [(0, (), 0), (0, W, 0), (1, (), 0), (1, W, 1), (2, (), 0), (2, W, 2), (3, W, 0)]
STRAIGHT = (one(MAKE, MAKE, IDLE), [("w", (0, 2))], 2, STRAIGHT_TABLE)


class TableCase(unittest.TestCase):
    def check(self, program, manner, number, table):
        kept = copy.deepcopy(table)
        told = shows_most(program, manner, number, table)
        self.assertEqual(table, kept)
        every = tuple(named_words(program))
        borne = is_table_for(program, manner, table) and all(
            bound <= number for n, words, bound in table if words == every
        )
        self.assertIs(told, borne, (program, manner, number, table))
        return told


class TableTests(TableCase):
    def test_what_most_tells(self):
        for number, program in enumerate(busy_programs(80) + making_programs(30)):
            for manner in (lean(program), drawn_manner(random.Random(number), program, 0.5)):
                told = most(program, manner)
                if told[0] == "most":
                    self.assertIs(self.check(program, manner, told[1], told[3]), True)

    def test_a_table_by_hand(self):
        self.assertIs(self.check(*STRAIGHT), True)
        program, manner, number, table = STRAIGHT
        self.assertEqual(most(program, manner)[1], number)

    def test_the_number(self):
        program, manner, number, table = STRAIGHT
        for other, answer in ((1, False), (2, True), (3, True), (50, True), (0, False), (-1, False)):
            self.assertIs(self.check(program, manner, other, table), answer)

    def test_an_entry_less(self):
        program, manner, number, table = STRAIGHT
        for k in range(len(table)):
            self.assertIs(self.check(program, manner, number, table[:k] + table[k + 1:]), False)
        self.assertIs(self.check(program, manner, number, []), False)

    def test_a_number_one_less(self):
        program, manner, number, table = STRAIGHT
        for k, (n, words, bound) in enumerate(table):
            self.assertIs(self.check(program, manner, number, table[:k] + [(n, words, bound - 1)] + table[k + 1:]), False)

    # Those behind it must rise with it, or those that ask nothing of it stay.
    def test_a_number_one_more(self):
        program, manner, number, table = STRAIGHT
        seen = []
        for k, (n, words, bound) in enumerate(table):
            changed = table[:k] + [(n, words, bound + 1)] + table[k + 1:]
            seen.append(self.check(program, manner, 9, changed))
        self.assertEqual(seen, [False, False, False, False, False, True, True])
        self.assertIs(self.check(program, manner, 2, [(n, words, bound + (n == 3)) for n, words, bound in table]), True)
        self.assertIs(self.check(program, manner, 2, [(n, words, bound + 1) for n, words, bound in table]), False)
        self.assertIs(self.check(program, manner, 3, [(n, words, bound + 1) for n, words, bound in table]), True)

    def test_below_nothing(self):
        program, manner, number, table = STRAIGHT
        self.assertIs(self.check(program, manner, number, [(n, words, bound - 3) for n, words, bound in table]), False)
        self.assertIs(self.check(one(IDLE), [], 0, [(0, (), 0), (1, (), 0)]), True)
        self.assertIs(self.check(one(IDLE), [], 0, [(0, (), -1), (1, (), -1)]), False)
        self.assertIs(self.check(one(IDLE), [], 0, [(0, (), -1), (1, (), 0)]), False)

    def test_an_entry_that_nothing_asks(self):
        program, manner, number, table = STRAIGHT
        self.assertIs(self.check(program, manner, number, table + [(3, (), 0)]), True)
        self.assertIs(self.check(program, manner, number, table + [(3, (), 7)]), True)
        self.assertIs(self.check(program, manner, number, table + [(3, (), -1)]), False)
        # It has to be borne as well, by its own ones ahead.
        self.assertIs(self.check(program, [], 2, [(n, W, min(n, 2)) for n in range(4)]), True)
        self.assertIs(self.check(program, [], 2, [(n, W, min(n, 2)) for n in range(4)] + [(0, (), 0)]), True)
        self.assertIs(self.check(program, [], 2, [(n, W, min(n, 2)) for n in range(4)] + [(1, (), 0)]), False)
        both = [(n, W, min(n, 2)) for n in range(4)] + [(0, (), 0), (1, (), 0)]
        self.assertIs(self.check(program, [], 2, both), True)

    def test_twice_the_same(self):
        program, manner, number, table = STRAIGHT
        for k, (n, words, bound) in enumerate(table):
            self.assertIs(self.check(program, manner, 9, table + [table[k]]), False)
            self.assertIs(self.check(program, manner, 9, table + [(n, words, bound + 1)]), False)
            self.assertIs(self.check(program, manner, 9, [(n, words, bound + 1)] + table), False)

    def test_words_not_rising(self):
        program = one(MAKE, OTHER)
        table = [(n, VW, n) for n in range(3)]
        self.assertIs(self.check(program, [], 2, table), True)
        self.assertIs(self.check(program, [], 2, [(n, ("w", "v"), n) for n in range(3)]), False)
        self.assertIs(self.check(program, [], 2, table + [(n, ("w", "v"), n) for n in range(3)]), False)
        self.assertIs(self.check(program, [], 2, table + [(0, ("w", "v"), 0)]), False)
        self.assertIs(self.check(program, [], 2, table + [(0, ("w", "w"), 0)]), False)
        self.assertIs(self.check(program, [], 2, table + [(0, ("v", "w", "w"), 0)]), False)
        self.assertIs(self.check(program, [], 2, table + [(0, ("w",), 0)]), True)

    def test_another_order(self):
        program, manner, number, table = STRAIGHT
        for seed in range(20):
            drawn = random.Random(seed).sample(table, len(table))
            self.assertIs(self.check(program, manner, number, drawn), True)

    # Only entries with all words are held against the number.
    def test_entries_with_fewer_words(self):
        program = one(MAKE, OTHER, IDLE)
        manner = [("v", (0, 1))]
        table = most(program, manner)[3]
        self.assertIn((1, W, 1), table)
        raised = [(n, words, bound + 40 * (n == 3)) for n, words, bound in table]
        self.assertIs(self.check(program, manner, 2, raised), False)
        self.assertIs(self.check(program, manner, 2, table + [(3, W, 90)]), False)
        self.assertIs(self.check(program, manner, 2, table + [(0, ("v",), 90)]), True)

    def test_each_spot_has_an_entry_with_all_words(self):
        program = one(EITHER, MAKE, OR, OTHER, END)
        table = most(program, [])[3]
        for entry in table:
            if entry[1] == VW:
                self.assertIs(self.check(program, [], 5, [other for other in table if other != entry]), False)

    # What is given back at the spot ahead isn't asked there; what its line makes is one more all the same.
    def test_made_where_it_is_given_back(self):
        program = one(MAKE, MAKE)
        manner = [("w", (0, 1))]
        table = [(0, (), 0), (0, W, 0), (1, (), 0), (1, W, 1), (2, W, 1)]
        self.assertIs(self.check(program, manner, 1, table), True)
        self.assertIs(self.check(program, manner, 1, table[:-1] + [(2, W, 0)]), False)
        self.assertIs(self.check(program, [], 1, table), False)
        self.assertIs(self.check(program, manner, 1, [entry for entry in table if entry[:2] != (0, ())]), False)

    def test_no_table_where_the_rooms_grow(self):
        program = one(AGAIN, MAKE, END)
        for bound in (0, 1, 50):
            table = [(n, W, bound) for n in range(len(spots(program)))]
            self.assertIs(self.check(program, [], 99, table), False)
        seen = 0
        for number, drawn in enumerate(busy_programs(60)):
            rng = random.Random(number)
            if grown_words(drawn, []):
                every = tuple(named_words(drawn))
                table = [(n, every, rng.randint(0, 9)) for n in range(len(spots(drawn)))]
                self.assertIs(self.check(drawn, [], 9, table), False)
                seen += 1
        self.assertGreater(seen, 10)

    def test_for_another_manner(self):
        for number, program in enumerate(busy_programs(60)):
            rng = random.Random(number)
            told = most(program, lean(program))
            if told[0] == "most":
                self.check(program, drawn_manner(rng, program), told[1], told[3])
                self.check(program, [], told[1], told[3])

    # A number borne by any table is at least the most.
    def test_drawn_changes(self):
        seen = []
        for number, program in enumerate(busy_programs(80) + making_programs(20)):
            rng = random.Random(number)
            for manner in (lean(program), drawn_manner(rng, program, 0.5)):
                told = most(program, manner)
                if told[0] == "most":
                    for draw in range(6):
                        table = changed(rng, program, told[3])
                        bound = told[1] + rng.randint(-1, 2)
                        seen.append(self.check(program, manner, bound, table))
                        if seen[-1]:
                            self.assertGreaterEqual(bound, most_anew(program, manner))
        self.assertGreater(min(seen.count(True), seen.count(False)), 50)

    def test_parts(self):
        program = (("main", (do("p"), do("p"), MAKE)), ("p", (MAKE, IDLE)))
        for manner in ([], [("w", (1, 2))], [("w", (1, 0))], [("w", (0, 1)), ("w", (1, 1))]):
            told = most(program, manner)
            self.assertIs(self.check(program, manner, told[1], told[3]), True)
            for k in range(len(told[3])):
                self.assertIs(self.check(program, manner, told[1], told[3][:k] + told[3][k + 1:]), False)


# A table with one entry changed, left out or put in, or nothing of these.
def changed(rng, program, table):
    table = list(table)
    k = rng.randrange(len(table))
    n, words, bound = table[k]
    draw = rng.randrange(6)
    if draw == 0:
        table.pop(k)
    elif draw == 1:
        table[k] = (n, words, bound + rng.choice((-1, 1, 2)))
    elif draw == 2:
        table.append((rng.randrange(len(spots(program))), tuple(w for w in words if rng.random() < 0.5), rng.randint(0, 3)))
    elif draw == 3:
        table = [(n, words, bound + 1) for n, words, bound in table]
    elif draw == 4:
        table.reverse()
    return table


class BoundTests(TableCase):
    def test_at_the_bounds(self):
        for number, program in enumerate(bound_programs()):
            for manner in (all_done(program), lean(program), drawn_manner(random.Random(number), program, 0.6)):
                told = most(program, manner)
                if told[0] == "most":
                    began = time.monotonic()
                    self.assertIs(shows_most(program, manner, told[1], told[3]), True)
                    self.assertIs(shows_most(program, manner, told[1] - 1, told[3]), False)
                    self.assertLess(time.monotonic() - began, 8)


if __name__ == "__main__":
    unittest.main()
