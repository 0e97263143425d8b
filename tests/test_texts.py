import random
import re
import unittest

from doneroom.errors import NoProgram, NoText
from doneroom.programs import is_program
from doneroom.reads import read_program
from doneroom.shows import show_program
from helper import EACH_KIND, KEPT, backs, bound_cases, crooked_programs, good_programs, one, parts

ROWS = {
    "x = pair w y z": ("pair", "x", "w", "y", "z"),
    "x = first y": ("first", "x", "y"),
    "x = second y": ("second", "x", "y"),
    "x = y": ("same", "x", "y"),
    "x = none": ("none", "x"),
    "tell y": ("tell", "y"),
    "back w": ("back", "w"),
    "either": ("either",),
    "or": ("or",),
    "again": ("again",),
    "end": ("end",),
    "do p": ("do", "p"),
}

BAD_ROWS = (
    # blanks
    "", " ", "  ", " either", "either ", " x = y", "x = y ", "x  = y", "x =  y", "x=y", "x= y", "x =y", "tell  y",
    "x = pair  w y z", "x = pair w y  z", "part  p", " part p", "part p ", "do  p", "x = none ", " x = none",
    # great letters
    "Either", "OR", "Tell y", "tell Y", "X = y", "x = Y", "x = Pair w y z", "x = NONE", "PART p", "part P", "Do p",
    # a word more, less, another one
    "part", "part p q", "x = pair w y", "x = pair w y z z", "x = pair", "x = first", "x = first y z", "x = second",
    "x = second y z", "x =", "x = y z", "x = none y", "x = none none", "tell", "tell y z", "back", "back v w",
    "either x", "or x", "again x", "end x", "do", "do p q", "x", "=", "= y", "= pair w y z", "x = third y", "x is y",
    "tells y", "give w", "else", "loop", "x = pairs w y z", "x = same y", "tell none", "goto p",
    # names that are none
    "ninelongs = y", "x = ninelongs", "tell ninelongs", "back ninelongs", "do ninelongs", "part ninelongs",
    "x1 = y", "x = 1", "tell 0", "back 2", "do p0", "part 1", "x = pair w y 3", "x = pair 3 y z", "x = first 1",
    "or = y", "x = or", "tell or", "back end", "do part", "part do", "part part", "x = pair pair y z",
    "x = pair w none z", "x = first none", "x = second first", "none = x", "first = y", "part = y",
    # signs left out, put in, doubled
    "x y", "x pair w y z", "x first y", "x none", "x == y", "x = = y", "x = = pair w y z", "x = y.", "x = y;",
    "tell y,", "back w!", "either:", "x := y", "x - y", "x = -", "tell -", "#", "x = (y)", "x, = y", "tell y=",
    # = put in
    "tell = y", "back = w", "do = p", "part = p", "= either", "either =", "or =", "x = tell y", "x = either",
    "x = back w", "x = do p", "x = part p", "tell = none",
    # the order of the line's tuple
    "pair x w y z", "first x y", "second x y", "same x y", "none x", "pair", "first", "second", "same", "none",
    "pair = x w y z", "first = x y", "same = x y", "x = pair w",
)

ONE_NAME = "(?!(?:" + "|".join(KEPT) + ")(?![a-z]))[a-z]{1,8}"
FORMS = (
    "part N", "N = pair N N N", "N = first N", "N = second N", "N = N", "N = none", "tell N", "back N", "either", "or",
    "again", "end", "do N",
)
ROW_FORM = re.compile("|".join(form.replace("N", ONE_NAME) for form in FORMS))


def is_row(row):
    return ROW_FORM.fullmatch(row) is not None


def first_bad(text):
    rows = text.split("\n")
    if not rows[0].startswith("part "):
        return 0
    return next((at for at, row in enumerate(rows) if not is_row(row)), None)


class ShowTests(unittest.TestCase):
    def test_each_kind_of_row(self):
        self.assertEqual(tuple(ROWS.values()), EACH_KIND)
        for row, line in ROWS.items():
            self.assertEqual(show_program(one(line)), "part main\n" + row)

    def test_several_parts(self):
        program = (("main", (("do", "sub"), ("tell", "x"))), ("sub", (("none", "x"),)), ("lone", ()))
        self.assertEqual(show_program(program), "part main\ndo sub\ntell x\npart sub\nx = none\npart lone")

    def test_no_lines(self):
        self.assertEqual(show_program(one()), "part main")


class ReadTests(unittest.TestCase):
    def refused(self, text, at):
        with self.subTest(text=text), self.assertRaises(NoText) as told:
            read_program(text)
        if told.exception is not None:
            self.assertIs(type(told.exception.at), int)
            self.assertEqual(told.exception.at, at, text)

    def no_program(self, text, why=None):
        with self.subTest(why=why or text), self.assertRaises(NoProgram):
            read_program(text)

    def test_each_kind_of_row(self):
        for row, line in ROWS.items():
            if line[0] == "do":
                self.assertEqual(read_program("part main\n" + row + "\npart p"), (("main", (line,)), ("p", ())))
            elif line[0] not in ("either", "or", "again", "end"):
                self.assertEqual(read_program("part main\n" + row), one(line))
        told = one(("either",), ("or",), ("end",), ("again",), ("end",))
        self.assertEqual(read_program("part main\neither\nor\nend\nagain\nend"), told)

    def test_same_is_a_name(self):
        text = "part same\nsame = same\nsame = none\ntell same\nsame = pair same same same\nsame = first same"
        told = (
            ("same", "same", "same"),
            ("none", "same"),
            ("tell", "same"),
            ("pair",) + ("same",) * 4,
            ("first", "same", "same"),
        )
        self.assertEqual(read_program(text), (("same", told),))

    def test_what_is_shown_is_read_as_the_program(self):
        for program in good_programs():
            text = show_program(program)
            self.assertEqual(read_program(text), program)
            self.assertEqual(show_program(read_program(text)), text)

    def test_a_shown_text_beyond_the_bound_of_texts(self):
        program = parts(*[backs(500, ("eightlet", "sevenlt"))] * 5)
        text = show_program(program)
        self.assertGreater(len(text), 20000)
        self.assertEqual(read_program(text), program)

    def test_all_are_tuples(self):
        self.assertIs(is_program(read_program("part a\ndo b\nx = y\npart b\nagain\nend")), True)

    def test_bad_rows(self):
        for row in BAD_ROWS:
            self.refused(row, 0)
            self.refused("part main\n" + row, 1)
            self.refused("part main\ntell x\n" + row + "\ntell x", 2)
            self.refused("part main\ntell x\npart sub\n" + row + "\n" + row, 3)

    def test_the_first_row_is_no_part_row(self):
        for row in ROWS:
            self.refused(row, 0)
            self.refused(row + "\npart main", 0)
            self.refused(row + "\npart main\nbad row", 0)
        self.refused("\npart main", 0)

    def test_empty_rows(self):
        self.refused("", 0)
        self.refused("part main\n", 1)
        self.refused("part main\n\n", 1)
        self.refused("part main\ntell x\n", 2)
        self.refused("part main\n\ntell x", 1)
        self.refused("\n", 0)

    def test_the_first_bad_row_is_told(self):
        self.refused("part main\ntell x\nTell\ntell x\nTell", 2)
        self.refused("part main\n" + "tell x\n" * 2000 + "tell", 2001)

    def test_no_programs(self):
        for why, program in crooked_programs().items():
            self.no_program(show_program(program), why)

    def test_bounds(self):
        for why, kept, passed in bound_cases():
            self.assertEqual(read_program(show_program(kept)), kept, why)
            self.no_program(show_program(passed), why)

    def test_a_bad_row_goes_first(self):
        cases = list(crooked_programs().values()) + [passed for why, kept, passed in bound_cases()]
        for program in cases:
            text = show_program(program)
            self.refused(text + "\ntell", text.count("\n") + 1)
            rows = text.split("\n")
            self.refused("\n".join(rows[:1] + ["x = = y"] + rows[1:]), 1)

    def test_changed_texts(self):
        rng = random.Random(8)
        text = "part main\ndo p\npart p\n" + "\n".join(row for row in ROWS if row not in ("or", "again", "do p"))
        text = text.replace("end", "or\nagain\nend\nend")
        program = read_program(text)
        self.assertEqual(show_program(program), text)
        changed = [text[:at] + text[at + 1:] for at in range(len(text))]
        changed += [text[:at] + text[at] + text[at:] for at in range(len(text))]
        for at in range(len(text) + 1):
            changed += [text[:at] + sign + text[at:] for sign in " =aeX0-\n"]
            changed += [text[:at] + rng.choice(KEPT) + text[at:]]
        for other in changed:
            self.check_as_told_anew(other)

    def check_as_told_anew(self, text):
        at = first_bad(text)
        if at is not None:
            self.refused(text, at)
            return
        try:
            told = show_program(read_program(text))
        except NoProgram:
            told = None
        if told is not None:
            self.assertEqual(told, text)

    def test_bad_rows_by_the_form(self):
        for row in BAD_ROWS:
            self.assertFalse(is_row(row), row)
        for row in ROWS:
            self.assertTrue(is_row(row), row)


if __name__ == "__main__":
    unittest.main()
