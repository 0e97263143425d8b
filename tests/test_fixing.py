import copy
import itertools
import random
import time
import unittest

from doneroom.clashes import clashes
from doneroom.errors import TooBig
from doneroom.fixing import fixed, shows_few, too_few
from doneroom.manners import lean
from helper import AGAIN, EITHER, END, IDLE, MAKE, OR, OTHER, TELL, THIRD, busy_programs, check_growth, clashes_anew
from helper import do, drawn_manner, grown_words, making_numbers, one

GROWS = one(AGAIN, MAKE, EITHER, OTHER, OR, THIRD, END, END)
EIGHT = one(*[MAKE, IDLE] * 8)
NINE = one(*[MAKE, IDLE] * 9)
NINE_GROWS = one(AGAIN, *[MAKE] * 9, END)
NINE_BY_WAYS = (("main", (do("p"),) * 3), ("p", (MAKE, OTHER, MAKE)))


def make(word):
    return ("pair", "x", word, "y", "y")


# Rooms of words of their own, each in use from its line on until a gap: a program and a manner of these.
def spans(lines_and_gaps):
    lines = [IDLE] * max(gap for line, gap in lines_and_gaps)
    for word, (line, gap) in zip("klmno", lines_and_gaps):
        lines[line] = make(word)
    return one(*lines), [(word, (0, gap)) for word, (line, gap) in zip("klmno", lines_and_gaps)]


# In each round five rooms are made one after the other, each given back at the spot behind the making of the next one,
# the last one in the next round: so each clashes with the one ahead and the one behind it, in a ring.
def ring_program():
    lines = [line for word in "klmno" for line in (make(word), IDLE)]
    return one(AGAIN, *lines, END), [(word, (0, gap)) for word, gap in zip("klmno", (4, 6, 8, 10, 2))]


# The fewest rooms, by trying all ways.
def fewest(makers, pairs):
    many = 0
    while not any(fits(makers, pairs, rooms) for rooms in itertools.product(range(many), repeat=len(makers))):
        many += 1
    return many


def fits(makers, pairs, rooms):
    room = dict(zip(makers, rooms))
    return not any(room[n] == room[m] for n, m in pairs)


# A tree by the words of [31]; rooms is a list of lists of making spots.
def is_shown(makers, pairs, many, rooms, tree):
    if tree[0] == "clash":
        return (tree[1], tree[2]) in pairs and any(tree[1] in room and tree[2] in room for room in rooms)
    n, branches = tree[1:]
    if n not in makers or any(n in room for room in rooms):
        return False
    ways = [[room + [n] if k == j else room for j, room in enumerate(rooms)] for k in range(len(rooms))]
    if len(rooms) < many:
        ways.append(rooms + [[n]])
    return len(branches) == len(ways) and all(
        is_shown(makers, pairs, many, way, branch) for way, branch in zip(ways, branches)
    )


# Small programs in which at least one room is made, with few making spots.
def few_makers(count):
    return [program for program in busy_programs(count) if 1 <= len(making_numbers(program)) <= 7]


class FixedTests(unittest.TestCase):
    def check(self, program, manner, many=None):
        told = fixed(program, manner)
        self.assertEqual((type(told), len(told), told[0]), (tuple, 3, "rooms"))
        self.assertEqual((type(told[1]), type(told[2])), (int, list))
        makers, pairs = making_numbers(program), clashes_anew(program, manner)
        self.assertEqual([row[0] for row in told[2]], makers)
        self.assertEqual({(type(row), len(row)) for row in told[2]} | {(tuple, 2)}, {(tuple, 2)})
        self.assertTrue(all(0 <= room < told[1] for n, room in told[2]))
        self.assertTrue(fits(makers, pairs, [room for n, room in told[2]]))
        if len(makers) <= 6:
            self.assertEqual(told[1], fewest(makers, pairs))
        if many is not None:
            self.assertEqual(told[1], many)
        return told

    def test_no_making_spot(self):
        for program in (one(), one(TELL), (("main", (IDLE,)), ("lone", (MAKE,)))):
            self.assertEqual(fixed(program, []), ("rooms", 0, []))

    def test_one(self):
        self.assertEqual(fixed(one(MAKE), []), ("rooms", 1, [(0, 0)]))
        self.assertEqual(fixed(one(AGAIN, MAKE, END), [("w", (0, 1))])[:2], ("rooms", 1))

    def test_two(self):
        self.check(one(MAKE, OTHER), [], 2)
        self.check(one(MAKE, OTHER), [("w", (0, 1))], 1)
        self.check(one(EITHER, MAKE, OR, OTHER, END), [], 1)

    def test_three_in_a_row(self):
        program, manner = one(MAKE, OTHER, THIRD), [("v", (0, 3)), ("w", (0, 2))]
        self.assertEqual(clashes(program, manner), [(0, 1), (1, 2)])
        self.check(program, manner, 2)
        self.check(program, [], 3)

    def test_parts_done_several_times(self):
        program = (("main", (do("p"), do("p"), do("p"))), ("p", (MAKE, OTHER)))
        self.check(program, [], 6)
        self.check(program, [("v", (1, 2)), ("w", (1, 2))], 2)
        self.check(program, [("v", (0, 2)), ("w", (0, 2))], 4)

    def test_spans(self):
        self.check(*spans([(0, 3), (1, 5), (4, 7), (5, 9), (8, 10)]), 2)
        self.check(*spans([(0, 9), (1, 3), (2, 5), (4, 7), (6, 9)]), 3)
        self.check(*spans([(0, 9), (1, 9), (2, 9), (3, 9), (4, 9)]), 5)

    # Along a ring of five two rooms don't do, though no three are ever in use at once.
    def test_a_ring_of_five(self):
        program, manner = ring_program()
        pairs = clashes_anew(program, manner)
        self.assertEqual(len(making_numbers(program)), 5)
        self.assertEqual([sum(n in pair for pair in pairs) for n in making_numbers(program)], [2] * 5)
        self.check(program, manner, 3)

    def test_drawn(self):
        seen = []
        for number, program in enumerate(few_makers(200)):
            rng = random.Random(number)
            for manner in (lean(program), [], drawn_manner(rng, program, 0.3), drawn_manner(rng, program, 0.6)):
                if grown_words(program, manner):
                    check_growth(self, program, manner, fixed(program, manner))
                    seen.append("grows")
                else:
                    seen.append(self.check(program, manner)[1])
        self.assertGreater(min(seen.count("grows"), seen.count(1), seen.count(2), seen.count(3)), 10)

    def test_as_most_tells_where_the_rooms_grow(self):
        check_growth(self, GROWS, [("w", (0, 1))], fixed(GROWS, [("w", (0, 1))]))
        check_growth(self, GROWS, [], fixed(GROWS, []))

    def test_too_many_making_spots(self):
        for program in (NINE, NINE_GROWS, NINE_BY_WAYS):
            with self.assertRaises(TooBig) as caught:
                fixed(program, [])
            self.assertIs(type(caught.exception), TooBig)
        self.check(EIGHT, [], 8)
        self.check(EIGHT, [("w", (0, gap)) for gap in range(17)], 1)
        # Lines that no run comes to are no making spots.
        self.check(EIGHT + (("lone", (MAKE,) * 3),), [], 8)
        check_growth(self, one(AGAIN, *[MAKE] * 8, END), [], fixed(one(AGAIN, *[MAKE] * 8, END), []))


class TooFewTests(unittest.TestCase):
    def check(self, program, manner, many):
        kept = copy.deepcopy(manner)
        tree = too_few(program, manner, many)
        makers, pairs = making_numbers(program), clashes_anew(program, manner)
        self.assertEqual(tree is None, fewest(makers, pairs) <= many, (program, manner, many))
        if tree is not None:
            self.assertTrue(is_shown(makers, pairs, many, [], tree))
            self.assertIs(shows_few(program, manner, many, tree), True)
        self.assertEqual(manner, kept)
        return tree

    def test_none(self):
        for program in (one(), one(TELL), (("main", (IDLE,)), ("lone", (MAKE,)))):
            for many in (0, 1, 5):
                self.assertIsNone(self.check(program, [], many))
        self.assertIsNone(self.check(one(MAKE), [], 1))
        self.assertIsNone(self.check(one(MAKE, OTHER), [], 2))
        self.assertIsNone(self.check(one(MAKE, OTHER), [("w", (0, 1))], 1))

    def test_of_no_rooms(self):
        self.assertEqual(self.check(one(MAKE), [], 0), ("put", 0, ()))
        self.assertEqual(self.check(GROWS, [], 0)[2], ())

    def test_of_one_room(self):
        tree = self.check(one(MAKE, OTHER), [], 1)
        self.assertIn(tree, [("put", n, (("put", 1 - n, (("clash", 0, 1),)),)) for n in (0, 1)])

    def test_three_that_clash_with_each_other(self):
        program = one(MAKE, OTHER, THIRD)
        for many in range(5):
            self.assertEqual(self.check(program, [], many) is None, many >= 3)

    def test_a_ring_of_five(self):
        program, manner = ring_program()
        for many in range(5):
            self.assertEqual(self.check(program, manner, many) is None, many >= 3)

    # The rooms of one making spot that are in use at once are no clash: so many fixed rooms may do all the same.
    def test_where_the_rooms_grow(self):
        self.assertIsNone(self.check(one(AGAIN, MAKE, END), [], 1))
        self.assertIsNotNone(self.check(GROWS, [], 2))
        self.assertIsNone(self.check(GROWS, [], 3))

    def test_drawn(self):
        seen = []
        for number, program in enumerate(few_makers(120)):
            if len(making_numbers(program)) > 5:
                continue
            rng = random.Random(number)
            for manner in (lean(program), [], drawn_manner(rng, program, 0.3)):
                for many in range(5):
                    seen.append(self.check(program, manner, many) is None)
                told = fixed(program, manner)
                if told[0] == "rooms":
                    self.assertIsNone(too_few(program, manner, told[1]))
                    self.assertIsNotNone(too_few(program, manner, told[1] - 1))
        self.assertGreater(min(seen.count(True), seen.count(False)), 100)

    def test_too_big(self):
        for program in (NINE, NINE_GROWS, NINE_BY_WAYS):
            for many in (0, 3, 9, 20):
                with self.assertRaises(TooBig) as caught:
                    too_few(program, [], many)
                self.assertIs(type(caught.exception), TooBig)
        self.assertIsNone(too_few(EIGHT, [], 8))
        self.assertIsNone(too_few(EIGHT, [], 80))
        self.assertIs(shows_few(EIGHT, [], 7, too_few(EIGHT, [], 7)), True)

    def test_within_seconds(self):
        began = time.monotonic()
        for many in range(9):
            too_few(EIGHT, [], many)
            too_few(EIGHT, [("w", (0, gap)) for gap in range(17)], many)
            # Seven that never clash, and then one that clashes with all: many ways to try.
            program = one(*[MAKE, IDLE] * 7, OTHER, AGAIN, *[IDLE] * 2, END)
            too_few(program, [("w", (0, gap)) for gap in range(1, 15)], many)
        self.assertLess(time.monotonic() - began, 8)


class ShowsFewTests(unittest.TestCase):
    def check(self, program, manner, many, tree):
        told = shows_few(program, manner, many, tree)
        makers, pairs = making_numbers(program), clashes_anew(program, manner)
        self.assertIs(told, is_shown(makers, pairs, many, [], tree), (program, manner, many, tree))
        return told

    def setUp(self):
        # Making spots 0, 1, 2; 0 and 1 clash, 1 and 2 clash.
        self.row = (one(MAKE, OTHER, THIRD), [("v", (0, 3)), ("w", (0, 2))])
        # Each with each.
        self.each = (one(MAKE, OTHER, THIRD), [])

    def put_three(self, last):
        return ("put", 0, (("put", 1, (("clash", 0, 1), ("put", 2, last))),))

    def test_taken(self):
        self.assertIs(self.check(*self.each, 2, self.put_three((("clash", 0, 2), ("clash", 1, 2)))), True)
        self.assertIs(self.check(*self.row, 1, ("put", 0, (("put", 1, (("clash", 0, 1),)),))), True)
        self.assertIs(self.check(*self.row, 1, ("put", 2, (("put", 1, (("clash", 1, 2),)),))), True)
        # A making spot more than is needed.
        longer = ("put", 2, (("put", 0, (("put", 1, (("clash", 0, 1),)),)),))
        self.assertIs(self.check(*self.row, 1, longer), True)
        self.assertIs(self.check(*self.each, 0, ("put", 2, ())), True)

    def test_a_branch_left_out_or_doubled(self):
        good = (("clash", 0, 2), ("clash", 1, 2))
        for last in (good[:1], good[1:], (), good + good[:1], good + good[1:], good + good):
            self.assertIs(self.check(*self.each, 2, self.put_three(last)), False)
        tree = ("put", 0, (("put", 1, (("clash", 0, 1),)),) * 2)
        self.assertIs(self.check(*self.row, 1, tree), False)
        self.assertIs(self.check(*self.row, 1, ("put", 0, (("put", 1, ()),))), False)

    def test_branches_turned_about(self):
        self.assertIs(self.check(*self.each, 2, self.put_three((("clash", 1, 2), ("clash", 0, 2)))), False)
        turned = ("put", 0, (("put", 1, (("put", 2, (("clash", 0, 2), ("clash", 1, 2))), ("clash", 0, 1))),))
        self.assertIs(self.check(*self.each, 2, turned), False)

    def test_a_making_spot_put_twice(self):
        tree = ("put", 0, (("put", 0, (("clash", 0, 1),)),))
        self.assertIs(self.check(*self.each, 1, tree), False)
        tree = ("put", 0, (("put", 1, (("put", 0, (("clash", 0, 1),)),)),))
        self.assertIs(self.check(*self.each, 1, tree), False)

    def test_no_making_spot(self):
        for n in (3, 9, -1):
            self.assertIs(self.check(*self.each, 0, ("put", n, ())), False)
            self.assertIs(self.check(*self.each, 1, ("put", n, (("put", 0, (("put", 1, (("clash", 0, 1),)),)),))), False)
            self.assertIs(self.check(*self.each, 1, ("put", 0, (("clash", 0, n),))), False)
            self.assertIs(self.check(*self.each, 1, ("put", 0, (("clash", n, 0),))), False)
        self.assertIs(self.check(one(IDLE), [], 0, ("put", 0, ())), False)
        self.assertIs(self.check(one(IDLE), [], 0, ("clash", 0, 1)), False)

    def test_clashes_that_are_none(self):
        tree = ("put", 0, (("put", 2, (("clash", 0, 2),)),))
        self.assertIs(self.check(*self.row, 1, tree), False)
        self.assertIs(self.check(*self.each, 1, tree), True)
        # n > m, or n = m.
        self.assertIs(self.check(*self.each, 1, ("put", 0, (("put", 2, (("clash", 2, 0),)),))), False)
        self.assertIs(self.check(*self.each, 1, ("put", 0, (("put", 2, (("clash", 2, 2),)),))), False)
        self.assertIs(self.check(*self.each, 1, ("put", 0, (("clash", 0, 0),))), False)

    def test_that_stand_in_no_room_or_in_two(self):
        self.assertIs(self.check(*self.each, 1, ("clash", 0, 1)), False)
        self.assertIs(self.check(*self.each, 1, ("put", 0, (("clash", 0, 1),))), False)
        self.assertIs(self.check(*self.each, 1, ("put", 1, (("clash", 0, 1),))), False)
        self.assertIs(self.check(*self.each, 1, ("put", 2, (("clash", 0, 1),))), False)
        self.assertIs(self.check(*self.each, 2, self.put_three((("clash", 0, 1), ("clash", 1, 2)))), False)
        self.assertIs(self.check(*self.each, 2, ("put", 0, (("put", 1, (("clash", 0, 1), ("clash", 0, 1))),))), False)

    def test_for_another_number(self):
        tree = too_few(*self.each, 2)
        for many, answer in ((0, False), (1, False), (2, True), (3, False), (9, False)):
            self.assertIs(self.check(*self.each, many, tree), answer)
        self.assertIs(self.check(*self.each, 1, ("put", 0, ())), False)

    def test_for_another_manner(self):
        tree = too_few(*self.each, 2)
        self.assertIs(self.check(self.row[0], self.row[1], 2, tree), False)
        tree = too_few(*self.row, 1)
        self.assertIs(self.check(*self.each, 1, tree), True)

    def test_no_tree_where_so_many_do(self):
        for tree in all_trees([0, 1], 2, 3):
            self.assertIs(self.check(one(MAKE, OTHER), [], 2, tree), False)

    def test_all_small_trees(self):
        seen = [self.check(one(MAKE, OTHER), [], 1, tree) for tree in all_trees([0, 1], 1, 3)]
        self.assertEqual(seen.count(True), 2)

    def test_too_big(self):
        for program in (NINE, NINE_GROWS, NINE_BY_WAYS):
            for tree in (("clash", 0, 1), ("put", 0, ())):
                with self.assertRaises(TooBig) as caught:
                    shows_few(program, [], 0, tree)
                self.assertIs(type(caught.exception), TooBig)
        self.assertIs(shows_few(EIGHT, [], 0, ("put", 0, ())), True)

    # A tree far too deep is none: what was put can't be put again.
    def test_deep_trees(self):
        tree = ("clash", 0, 1)
        for level in range(3000):
            tree = ("put", level % 3, (tree,))
        self.assertIs(shows_few(*self.each, 1, tree), False)


# Trees of at most so many levels with at most so many branches, over these numbers.
def all_trees(numbers, branches, levels):
    trees = [("clash", n, m) for n in numbers for m in numbers]
    for level in range(levels - 1):
        rows = [row for size in range(branches + 1) for row in itertools.product(trees[:12], repeat=size)]
        trees = [("clash", n, m) for n in numbers for m in numbers] + [("put", n, row) for n in numbers for row in rows]
    return trees


class OwnTests(unittest.TestCase):
    def test_nothing_handed_in_is_changed_and_lists_are_new(self):
        program, manner = one(MAKE, OTHER), [("w", (0, 2))]
        kept = copy.deepcopy(manner)
        fixed(program, manner)[2].clear()
        self.assertEqual(len(fixed(program, manner)[2]), 2)
        tree = too_few(program, manner, 1)
        self.assertEqual(type(tree), tuple)
        shows_few(program, manner, 1, tree)
        self.assertEqual(manner, kept)


if __name__ == "__main__":
    unittest.main()
