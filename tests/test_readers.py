import copy
import itertools
import random
import unittest

from doneroom.readers import at_seat, takes
from helper import all_paths

A, B, C = (0, 0, "a"), (0, 1, "b"), (1, 2, "c")
EMPTY = ([], [])
# From A by 1 to B or C, from A by 2 to a seat at which nothing is, from B by 2 to C; C is the end.
FORKED = ([C], [(A, 1, B), (A, 1, C), (A, 2, (0, 9, "a")), (B, 2, C)])
# Round A, B, C and A again by 1, 2, 1; B is the end.
RING = ([B], [(A, 1, B), (B, 2, C), (C, 1, A)])


class TakesTests(unittest.TestCase):
    def check(self, reader, seat, path, told):
        self.assertIs(takes(reader, seat, path), told, (seat, path))

    def test_the_path_without_letters(self):
        self.check(FORKED, C, [], True)
        for seat in (A, B, (0, 9, "a"), (0, 2, "c"), (1, 2, "b")):
            self.check(FORKED, seat, [], False)

    def test_several_moves_with_one_letter(self):
        self.check(FORKED, A, [1], True)
        self.check(FORKED, A, [1, 2], True)
        self.check(FORKED, A, [2], False)
        self.check(FORKED, A, [1, 1], False)
        self.check(FORKED, A, [1, 2, 1], False)

    def test_moves_to_seats_at_which_nothing_is(self):
        self.check(FORKED, A, [2, 1], False)
        self.check(FORKED, (0, 9, "a"), [], False)
        self.check(FORKED, (0, 9, "a"), [1], False)

    def test_rings(self):
        for rounds in (0, 1, 19):
            self.check(RING, A, [1] + [2, 1, 1] * rounds, True)
            self.check(RING, A, [2] + [2, 1, 1] * rounds, False)
            self.check(RING, B, [2, 1, 1] * rounds, True)
            self.check(RING, B, [2, 1, 1] * rounds + [2], False)
        self.check(([A], [(A, 1, A), (A, 2, A)]), A, [1, 2, 2] * 20, True)
        self.check(([A], [(A, 1, A)]), A, [1] * 60, True)
        self.check(([A], [(A, 1, A)]), A, [1] * 59 + [2], False)

    def test_many_ways_for_a_long_path(self):
        moves = sorted((seat, letter, other) for seat in (A, B, C) for letter in (1, 2) for other in (A, B, C))
        self.check(([A], moves), B, [1, 2] * 30, True)
        self.check(([], moves), B, [1, 2] * 30, False)
        self.check(([(0, 5, "z")], moves), B, [1, 2] * 30, False)

    def test_an_end_on_the_way_is_not_enough(self):
        self.check(([A], [(A, 1, B)]), A, [1], False)
        self.check(([B], [(A, 1, B)]), A, [1], True)

    def test_without_entries(self):
        for path in ([], [1], [2, 1] * 30):
            self.check(EMPTY, A, path, False)

    def test_as_told_anew(self):
        for number in range(60):
            reader = drawn_reader(number)
            for seat in (A, B, C):
                for path in all_paths(4):
                    self.check(reader, seat, path, taken_anew(reader, seat, path))

    def test_nothing_is_changed(self):
        reader = copy.deepcopy(FORKED)
        path = [1, 2]
        takes(reader, A, path)
        at_seat(reader, A)
        self.assertEqual([reader, path], [FORKED, [1, 2]])


def drawn_reader(number):
    rng = random.Random(number)
    every = list(itertools.product((A, B, C), (1, 2), (A, B, C)))
    ends = [seat for seat in (A, B, C) if rng.random() < 0.4]
    return (ends, sorted(rng.sample(every, rng.randint(0, 7))))


def taken_anew(reader, seat, path):
    if not path:
        return seat in reader[0]
    return any(taken_anew(reader, other, path[1:]) for start, letter, other in reader[1]
               if start == seat and letter == path[0])


class AtSeatTests(unittest.TestCase):
    def test_ends_and_moves(self):
        self.assertEqual(at_seat(FORKED, A), (False, [(1, B), (1, C), (2, (0, 9, "a"))]))
        self.assertEqual(at_seat(FORKED, B), (False, [(2, C)]))
        self.assertEqual(at_seat(FORKED, C), (True, []))
        self.assertEqual(at_seat(RING, B), (True, [(2, C)]))
        self.assertEqual(at_seat(FORKED, (0, 9, "a")), (False, []))
        self.assertEqual(at_seat(EMPTY, A), (False, []))

    def test_kinds(self):
        told = at_seat(FORKED, A)
        self.assertEqual([type(told), type(told[0]), type(told[1])], [tuple, bool, list])
        self.assertEqual({(type(pair), len(pair)) for pair in told[1]}, {(tuple, 2)})
        self.assertIs(at_seat(FORKED, C)[0], True)

    def test_a_told_list_is_the_askers_own(self):
        reader = copy.deepcopy(FORKED)
        at_seat(reader, A)[1].append("other")
        at_seat(reader, C)[1].append("other")
        self.assertEqual(reader, FORKED)
        self.assertEqual(at_seat(reader, A), (False, [(1, B), (1, C), (2, (0, 9, "a"))]))
        self.assertEqual(at_seat(reader, C), (True, []))


if __name__ == "__main__":
    unittest.main()
