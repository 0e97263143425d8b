import itertools
import unittest

from doneroom.blocks import end_of, head_of, is_blocks, or_of
from helper import AGAIN, EITHER, END, OR, drawn_programs, nested, plain

TELL = ("tell", "x")


# Told anew from the words of [6]: strikes out whole blocks, innermost first, until none is left.
def strikes_out(lines):
    rest = "".join({"either": "e", "or": "o", "again": "a", "end": "n"}.get(line[0], "") for line in lines)
    before = None
    while rest != before:
        before = rest
        rest = rest.replace("an", "").replace("eon", "")
    return rest == ""


class BlocksTests(unittest.TestCase):
    def check(self, lines, told):
        with self.subTest(lines=lines):
            self.assertIs(is_blocks(tuple(lines)), told)

    def test_right_ones(self):
        self.check((), True)
        self.check((TELL,), True)
        self.check((AGAIN, END), True)
        self.check((EITHER, OR, END), True)
        self.check((AGAIN, TELL, END, EITHER, TELL, OR, TELL, END), True)
        self.check((EITHER, EITHER, OR, END, OR, EITHER, OR, END, END), True)
        self.check((EITHER, AGAIN, END, OR, AGAIN, END, END), True)
        self.check((AGAIN, EITHER, AGAIN, END, OR, END, END), True)

    def test_blocks_are_not_bounded_here(self):
        for depth in (6, 7, 20, 400):
            self.check(nested(depth, (TELL,)), True)

    def test_an_end_too_many(self):
        self.check((END,), False)
        self.check((AGAIN, END, END), False)
        self.check((END, AGAIN), False)
        self.check((EITHER, OR, END, END), False)

    def test_a_block_left_open(self):
        self.check((AGAIN,), False)
        self.check((EITHER, OR), False)
        self.check((EITHER,), False)
        self.check((AGAIN, AGAIN, END), False)
        self.check((EITHER, AGAIN, OR, END), False)

    def test_an_either_without_or_or_with_two(self):
        self.check((EITHER, END), False)
        self.check((EITHER, TELL, END), False)
        self.check((EITHER, OR, OR, END), False)
        self.check((EITHER, TELL, OR, TELL, OR, TELL, END), False)
        self.check((EITHER, EITHER, OR, END, END), False)

    def test_an_or_in_another_place(self):
        self.check((OR,), False)
        self.check((AGAIN, OR, END), False)
        self.check((EITHER, AGAIN, OR, END, END), False)
        self.check((EITHER, AGAIN, OR, END, OR, END), False)
        self.check((EITHER, OR, END, OR), False)
        self.check((EITHER, OR, AGAIN, OR, END, END), False)

    def test_all_short_rows(self):
        for count in range(8):
            for lines in itertools.product((EITHER, OR, AGAIN, END), repeat=count):
                if is_blocks(lines) is not strikes_out(lines):
                    self.fail(lines)


class PartnerTests(unittest.TestCase):
    def test_of_a_small_row(self):
        #        0       1       2      3    4   5      6    7    8    9
        lines = (EITHER, EITHER, AGAIN, END, OR, AGAIN, END, END, OR, END)
        self.assertEqual([end_of(lines, k) for k in (0, 1, 2, 4, 5, 8)], [9, 7, 3, 7, 6, 9])
        self.assertEqual([or_of(lines, k) for k in (0, 1)], [8, 4])
        self.assertEqual([head_of(lines, k) for k in (3, 4, 6, 7, 8, 9)], [2, 1, 5, 1, 0, 0])

    def test_with_other_lines_between(self):
        lines = plain(2) + (AGAIN, TELL, END, TELL, EITHER, TELL, OR, TELL, END, TELL)
        self.assertEqual([end_of(lines, k) for k in (2, 6, 8)], [4, 10, 10])
        self.assertEqual(or_of(lines, 6), 8)
        self.assertEqual([head_of(lines, k) for k in (4, 8, 10)], [2, 6, 6])

    def test_side_by_side(self):
        lines = (EITHER, OR, END, EITHER, OR, END, AGAIN, END)
        self.assertEqual([end_of(lines, k) for k in (0, 1, 3, 4, 6)], [2, 2, 5, 5, 7])
        self.assertEqual([or_of(lines, k) for k in (0, 3)], [1, 4])
        self.assertEqual([head_of(lines, k) for k in (1, 2, 4, 5, 7)], [0, 0, 3, 3, 6])

    def test_of_all_right_short_rows_and_drawn_programs(self):
        rows = [row for count in range(9) for row in itertools.product((EITHER, OR, AGAIN, END), repeat=count)]
        rows = [row for row in rows if strikes_out(row)]
        rows += [lines for program in drawn_programs(60) for name, lines in program]
        for lines in rows:
            self.check_partners(lines)

    def check_partners(self, lines):
        opened = []
        for k, line in enumerate(lines):
            if line in (EITHER, AGAIN):
                opened.append([k])
            elif line == OR:
                opened[-1].append(k)
            elif line == END:
                block = opened.pop()
                self.assertEqual(head_of(lines, k), block[0], lines)
                for inner in block:
                    self.assertEqual(end_of(lines, inner), k, lines)
                if len(block) == 2:
                    self.assertEqual(or_of(lines, block[0]), block[1], lines)
                    self.assertEqual(head_of(lines, block[1]), block[0], lines)


if __name__ == "__main__":
    unittest.main()
