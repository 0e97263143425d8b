import inspect
import sys
import unittest

from doneroom.flats import flat
from doneroom.programs import is_program
from doneroom.runs import run_by
from doneroom.spots import spots
from helper import AGAIN, EITHER, END, OR, all_edges, backs, do, good_programs, nested, one, parts, plain, times

TELL = ("tell", "x")


# Told anew from the words of [12], by a plain recursion.
def met_from(edges, spot, met):
    if spot not in met:
        met.append(spot)
        for later in edges[spot]:
            met_from(edges, later, met)
    return met


# At the bounds of [7] at once: 48 lines, 500 backs, six blocks within one another, 24 ways.
GREATEST = parts(
    nested(3, times(1, "b") + backs(200)) + plain(15) + times(11, "c"),
    nested(3, backs(200) + times(11, "c")) + plain(19) + backs(100),
    (),
)


class SpotsTests(unittest.TestCase):
    def test_no_lines(self):
        self.assertEqual(spots(one()), [((), 0, 0, False)])

    def test_an_either(self):
        told = [((), 0, k, False) for k in (0, 1, 2, 5, 6, 3, 4)]
        self.assertEqual(spots(one(EITHER, TELL, OR, TELL, END, TELL)), told)

    def test_an_again_leads_back(self):
        told = [((), 0, 0, False), ((), 0, 0, True), ((), 0, 3, False), ((), 0, 1, False), ((), 0, 2, False)]
        self.assertEqual(spots(one(AGAIN, TELL, END)), told)

    def test_all_that_is_met_goes_ahead_of_the_second_next_one(self):
        program = one(EITHER, EITHER, OR, END, OR, AGAIN, END, END)
        told = [(0, False), (1, False), (2, False), (4, False), (8, False), (3, False)]
        told += [(5, False), (5, True), (7, False), (6, False)]
        self.assertEqual(spots(program), [((), 0, k, head) for k, head in told])

    def test_a_part_done_several_times(self):
        program = (("main", (do("sub"), do("sub"))), ("sub", (TELL,)), ("lone", (TELL,)))
        told = [
            ((), 0, 0, False),
            (((0, 0),), 1, 0, False),
            (((0, 0),), 1, 1, False),
            ((), 0, 1, False),
            (((0, 1),), 1, 0, False),
            (((0, 1),), 1, 1, False),
            ((), 0, 2, False),
        ]
        self.assertEqual(spots(program), told)

    def test_as_told_anew(self):
        limit = sys.getrecursionlimit()
        sys.setrecursionlimit(10000)
        try:
            for program in good_programs() + [GREATEST, flat(GREATEST)]:
                edges = all_edges(program)
                told = spots(program)
                self.assertEqual(told, met_from(edges, ((), 0, 0, False), []))
                self.assertEqual(len(told), len(set(told)))
        finally:
            sys.setrecursionlimit(limit)

    def test_nothing_hangs_on_the_depth_of_a_recursion(self):
        flattened = flat(GREATEST)[0][1]
        self.assertIs(is_program(GREATEST), True)
        self.assertEqual([len(flattened), len([line for line in flattened if line[0] == "back"])], [548, 500])
        self.assertGreater(len(spots(GREATEST)), 548)
        limit = sys.getrecursionlimit()
        sys.setrecursionlimit(len(inspect.stack()) + 60)
        try:
            deep = spots(GREATEST)
            flatter = spots(flat(GREATEST))
            run = run_by(one(*plain(48) + backs(500)), [])
        finally:
            sys.setrecursionlimit(limit)
        self.assertEqual([len(set(deep)), len(set(flatter))], [len(deep), len(flatter)])
        self.assertEqual(len(run[0]), 549)

    def test_ways(self):
        ways = set(spot[0] for spot in spots(GREATEST))
        self.assertEqual(len(ways), 24)
        self.assertEqual(len(set(spot[0] for spot in spots(parts(times(23, "b"), ())))), 24)

    def test_a_told_list_is_the_askers_own(self):
        kept = spots(GREATEST)
        told = spots(GREATEST)
        self.assertIs(type(told), list)
        told.clear()
        self.assertEqual(spots(GREATEST), kept)


if __name__ == "__main__":
    unittest.main()
