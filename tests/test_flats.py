import unittest

from doneroom.flats import flat
from doneroom.flows import line_of
from doneroom.programs import is_program
from doneroom.runs import run_by
from helper import AGAIN, EITHER, END, OR, backs, do, drawn_choices, good_programs, one, parts, plain, spliced, times

TELL = ("tell", "x")


# The lines gone through, do lines aside; a head and a last gap have none.
def lines_of(program, run):
    lines = [line_of(program, spot) for spot in run]
    return [line for line in lines if line is not None and line[0] != "do"]


class FlatTests(unittest.TestCase):
    def test_without_do_lines(self):
        program = one(AGAIN, TELL, ("back", "w"), END)
        self.assertEqual(flat(program), program)
        self.assertEqual(flat(one()), one())

    def test_do_lines_within_do_lines(self):
        program = (
            ("main", (TELL, AGAIN, do("mid"), END, ("none", "y"))),
            ("mid", (EITHER, do("low"), OR, ("back", "w"), END)),
            ("low", (("same", "x", "y"),)),
        )
        told = (TELL, AGAIN, EITHER, ("same", "x", "y"), OR, ("back", "w"), END, END, ("none", "y"))
        self.assertEqual(flat(program), (("main", told),))

    def test_the_same_part_several_times(self):
        program = (("top", (do("b"), TELL, do("b"))), ("b", (("none", "x"), ("back", "v"))))
        told = (("none", "x"), ("back", "v"), TELL, ("none", "x"), ("back", "v"))
        self.assertEqual(flat(program), (("top", told),))

    def test_empty_parts(self):
        self.assertEqual(flat(parts(times(23, "b"), ())), (("a", ()),))

    def test_a_part_that_none_does(self):
        self.assertEqual(flat((("a", (TELL, do("c"))), ("b", (do("c"), TELL)), ("c", (OR,)))), (("a", (TELL, OR)),))

    def test_a_long_part_that_none_does(self):
        program = parts((TELL,), *[times(48, name) for name in "cde"], plain(48) + backs(500))
        self.assertIs(is_program(program), True)
        self.assertEqual(flat(program), (("a", (TELL,)),))

    def test_back_lines_as_they_stand(self):
        program = (("a", backs(3, "uvw") + (do("b"),) + backs(2, "uv")), ("b", backs(2, "wu")))
        self.assertEqual(flat(program), (("a", backs(3, "uvw") + backs(2, "wu") + backs(2, "uv")),))

    def test_the_flat_one_is_a_flat_program(self):
        for program in good_programs():
            told = flat(program)
            self.assertIs(is_program(told), True)
            self.assertEqual(told, ((program[0][0], spliced(program)),))
            self.assertEqual(flat(told), told)

    def test_its_runs_go_through_the_same_lines(self):
        for number, program in enumerate(good_programs()):
            for count in (0, 1, 4, 30):
                choices = drawn_choices(number * 10 + count, count)
                run, used = run_by(program, choices)
                other, other_used = run_by(flat(program), choices)
                self.assertEqual(lines_of(program, run), lines_of(flat(program), other))
                self.assertEqual(used, other_used)


if __name__ == "__main__":
    unittest.main()
