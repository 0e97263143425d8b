import copy
import random
import time
import unittest

from doneroom.holds import holds
from doneroom.meets import meets
from doneroom.readers import takes
from doneroom.wants import wants
from helper import all_paths, busy_programs, leafy_program, named_boxes, named_words, one, spots

A, B, C, D = (0, 0, "a"), (0, 1, "b"), (1, 2, "c"), (1, 3, "d")
SEATS = (A, B, C, D)
EMPTY = ([], [])


# Round and round by the letters, an end at the last seat.
def ring(letters, box="a"):
    seats = [(0, n, box) for n in range(len(letters))]
    moves = [(seats[n], letter, seats[(n + 1) % len(seats)]) for n, letter in enumerate(letters)]
    return ([seats[-1]], sorted(moves))


class MeetsTests(unittest.TestCase):
    def check(self, one_reader, seat, other, other_seat, path):
        told = meets(one_reader, seat, other, other_seat)
        self.assertEqual(told, path)
        self.assertEqual(meets(other, other_seat, one_reader, seat), path)
        if path is not None:
            self.assertIs(type(told), list)
            self.assertEqual({type(letter) for letter in told} - {int}, set())

    def test_the_path_without_letters(self):
        self.check(([A], []), A, ([B], []), B, [])
        self.check(([A], [(A, 1, A)]), A, ([A], [(A, 1, A)]), A, [])

    def test_no_path_in_common(self):
        self.check(([A], []), A, ([B], []), A, None)
        self.check(([A], []), B, ([B], []), B, None)
        self.check(([B], [(A, 1, B)]), A, ([B], [(A, 2, B)]), A, None)
        self.check(([B], [(A, 1, B)]), A, ([A], []), A, None)
        self.check(([B], [(A, 1, B)]), A, ([C], [(A, 1, B), (B, 1, C)]), A, None)
        # Paths of an even and of an odd number of letters.
        self.check(([A], [(A, 1, B), (B, 1, A)]), A, ([B], [(A, 1, B), (B, 1, A)]), A, None)

    def test_without_entries(self):
        for other in (EMPTY, ([A], []), ([A], [(A, 1, A), (A, 2, A)]), ([], [(A, 1, A)])):
            self.check(EMPTY, A, other, A, None)
        self.check(([], [(A, 1, A)]), A, ([A], [(A, 1, A)]), A, None)

    def test_fewest_letters_first(self):
        loose = ([B], sorted([(A, 1, A), (A, 2, B), (A, 1, C), (C, 1, B)]))
        every = ([A], [(A, 1, A), (A, 2, A)])
        self.check(loose, A, every, A, [2])
        self.check(([D], [(A, 1, B), (A, 2, D), (B, 1, D)]), A, every, A, [2])

    def test_then_the_least(self):
        every = ([A], [(A, 1, A), (A, 2, A)])
        self.check(([C], [(A, 1, B), (A, 2, B), (B, 1, C), (B, 2, C)]), A, every, A, [1, 1])
        self.check(([C], [(A, 1, B), (A, 2, B), (B, 2, C)]), A, every, A, [1, 2])
        self.check(([C], [(A, 1, B), (A, 2, D), (B, 2, C), (D, 1, C)]), A, every, A, [1, 2])

    # By 1 to B and to C: from B on by 2 alone, from C on by 1. The least goes by C, though B is met ahead.
    def test_the_least_among_seats_of_one_path(self):
        every = ([A], [(A, 1, A), (A, 2, A)])
        self.check(([D], [(A, 1, B), (A, 1, C), (B, 2, D), (C, 1, D)]), A, every, A, [1, 1])
        self.check(([D], [(A, 1, B), (A, 1, C), (B, 1, D), (C, 2, D)]), A, every, A, [1, 1])
        # D is come to by [1, 2] from B and by [1, 1] from C, and only from there on to the end.
        end = (1, 9, "e")
        moves = [(A, 1, B), (A, 1, C), (A, 2, C), (B, 2, D), (C, 1, D), (D, 2, end)]
        self.check(([end], moves), A, every, A, [1, 1, 2])

    def test_the_other_seat_counts(self):
        reader = ([C], [(A, 1, B), (B, 2, C)])
        self.check(reader, A, reader, A, [1, 2])
        self.check(reader, A, reader, B, None)
        self.check(reader, B, reader, B, [2])
        self.check(reader, C, reader, C, [])

    def test_rings(self):
        seat = (0, 0, "a")
        self.check(ring([1] * 3), seat, ring([1] * 5), seat, [1] * 14)
        self.check(ring([1] * 2), seat, ring([1] * 4), seat, [1] * 3)
        # Of 2 seats the ends are at 1, 3, 5 ..; of 3 at 2, 5, 8: the least of both is 5.
        self.check(ring([1] * 2), seat, ring([1] * 3), seat, [1] * 5)
        self.check(ring([1, 2]), seat, ring([1, 2, 1, 2]), seat, [1, 2, 1])
        self.check(ring([1, 2]), seat, ring([1, 2, 2]), seat, None)

    def test_long_least_paths(self):
        seat = (0, 0, "a")
        began = time.monotonic()
        self.check(ring([1] * 47), seat, ring([1] * 48), seat, [1] * (47 * 48 - 1))
        self.check(ring([2] * 101), seat, ring([2] * 103), seat, [2] * (101 * 103 - 1))
        self.assertLess(time.monotonic() - began, 20)

    def test_many_ways(self):
        moves = sorted((seat, letter, other) for seat in SEATS for letter in (1, 2) for other in SEATS)
        self.check(([D], moves), A, ring([2, 1] * 30), (0, 0, "a"), [2, 1] * 29 + [2])
        self.check(([], moves), A, ring([2, 1] * 30), (0, 0, "a"), None)

    def test_as_told_anew(self):
        met = 0
        paths = all_paths(7)
        for number in range(900):
            rng = random.Random(number)
            one_reader, other = drawn_reader(rng), drawn_reader(rng)
            seat, other_seat = rng.choice(SEATS), rng.choice(SEATS)
            common = [path for path in paths if takes(one_reader, seat, path) and takes(other, other_seat, path)]
            told = meets(one_reader, seat, other, other_seat)
            if common:
                met += len(common[0]) > 1
                self.assertEqual(told, common[0], (one_reader, seat, other, other_seat))
            else:
                self.assertTrue(told is None or len(told) > 7)
        self.assertGreater(met, 40)

    def test_holds_and_wants(self):
        paths = all_paths(4)
        for program in busy_programs(40):
            wanted = wants(program)
            for word in named_words(program):
                held = holds(program, word)
                for n in range(len(spots(program))):
                    for box in named_boxes(program):
                        seat = (0, n, box)
                        told = meets(held, seat, wanted, seat)
                        common = [path for path in paths if takes(held, seat, path) and takes(wanted, seat, path)]
                        self.assertTrue(told == common[0] if common else told is None or len(told) > 4)

    def test_nothing_is_changed_and_a_told_path_is_the_askers_own(self):
        one_reader, other = ring([1] * 3), ring([1] * 5)
        kept = copy.deepcopy((one_reader, other))
        told = meets(one_reader, (0, 0, "a"), other, (0, 0, "a"))
        self.assertEqual((one_reader, other), kept)
        told.clear()
        self.assertEqual(meets(one_reader, (0, 0, "a"), other, (0, 0, "a")), [1] * 14)
        meets(([A], []), A, ([A], []), A).append(1)
        self.assertEqual(meets(([A], []), A, ([A], []), A), [])

    def test_within_seconds(self):
        straight = one(*[("pair", "a", "w", "a", "b")] * 24 + [("first", "a", "a")] * 24)
        for program in [straight] + [leafy_program(number, 2 + number) for number in range(11)]:
            wanted = wants(program)
            word = named_words(program)[0]
            held = holds(program, word)
            began = time.monotonic()
            for n in range(0, len(spots(program)), 12):
                for box in named_boxes(program)[:2]:
                    told = meets(held, (0, n, box), wanted, (0, n, box))
                    if told is not None:
                        self.assertTrue(takes(held, (0, n, box), told) and takes(wanted, (0, n, box), told))
            self.assertLess(time.monotonic() - began, 20)


def drawn_reader(rng):
    every = [(seat, letter, other) for seat in SEATS for letter in (1, 2) for other in SEATS]
    return (sorted(rng.sample(SEATS, rng.choice((0, 1, 1, 1, 2)))), sorted(rng.sample(every, rng.randint(4, 12))))


if __name__ == "__main__":
    unittest.main()
