import time
import unittest

from doneroom.desk import Desk
from doneroom.errors import NoName, NoPlace, NoProgram, NoRow, NoText, NoWord, RoomError
from doneroom.flats import flat
from doneroom.judges import judged
from doneroom.manners import lean
from doneroom.most import most
from doneroom.needs import need
from doneroom.programs import is_program, places_of, words_of
from doneroom.puts import put_in, taken_out
from doneroom.reads import read_program
from doneroom.shelves import on_shelf
from doneroom.shows import show_program
from helper import back_bounds, bound_programs, busy_programs, drawn_choices, drawn_programs, without_backs

PLAIN = """part main
x = pair leaf y y
do p
tell x
y = none
do p
part p
y = none
part lone
x = pair odd y y"""

# The same with back lines: one too early, several at one place, one of a word that no pair line has.
GIVEN = """part main
back leaf
x = pair leaf y y
back odd
back leaf
back other
back leaf
do p
tell x
back leaf
y = none
do p
part p
y = none
back leaf
part lone
x = pair odd y y
back odd"""

LOOP = """part main
again
x = pair w y y
tell x
back w
z = pair v y y
end
tell x"""


def row_of(pair, program):
    return f"{pair[0]} {program[pair[1][0]][0]} {pair[1][1]}"


# What the desk is to answer to each row, by the functions.
def answers(program):
    plain, manner = taken_out(program)
    told = judged(plain, manner)
    rooms = most(plain, manner)
    return {
        "show": show_program(program),
        "lean": ", ".join(row_of(pair, plain) for pair in lean(plain)) or "nothing",
        "judge": "safe" if told[0] == "safe" else "gone " + row_of(told[1:3], plain),
        "most": f"{rooms[1]}" if rooms[0] == "most" else f"grows {rooms[1]}",
    }


def run_told(program, size, choices):
    told = on_shelf(program, choices, size)
    return " ".join(["told"] + told[2]) if told[0] == "told" else f"{told[0]} {told[1]}"


class RowTests(unittest.TestCase):
    def check(self, text, answers_by_row):
        desk = Desk(text)
        for row, answer in answers_by_row:
            self.assertEqual(desk.say(row), answer, row)
            self.assertIs(type(desk.say(row)), str)

    def test_show(self):
        for text in (PLAIN, GIVEN, LOOP, "part main"):
            self.check(text, [("show", text)])

    def test_need(self):
        rows = [("need leaf main 0", "done"), ("need leaf main 1", "read 5"), ("need leaf main 2", "read 5")]
        rows += [("need leaf main 3", "done"), ("need leaf p 0", "read 5"), ("need leaf p 1", "read 5")]
        rows += [("need odd main 3", "done"), ("need odd lone 1", "done"), ("need leaf lone 0", "done")]
        self.check(PLAIN, rows)
        # By the program without its back lines and by its places.
        self.check(GIVEN, rows)

    def test_lean(self):
        self.check(PLAIN, [("lean", "leaf main 3")])
        self.check(GIVEN, [("lean", "leaf main 3")])
        self.check("part main\ntell x", [("lean", "nothing")])
        self.check("part main\nx = pair w y y\nz = pair v y y\ntell x\ntell z", [("lean", "v main 4, w main 3")])
        self.check("part main\ndo p\ndo p\npart p\nx = pair w y y", [("lean", "w p 1")])

    def test_give(self):
        given = PLAIN.replace("tell x\n", "tell x\nback leaf\n")
        for text in (PLAIN, GIVEN, given):
            desk = Desk(text)
            self.assertEqual(desk.say("give"), "ok")
            self.assertEqual(desk.say("show"), given)
            self.assertEqual(desk.say("give"), "ok")
            self.assertEqual(desk.say("show"), given)
            self.assertEqual(desk.say("judge"), "safe")

    def test_flat(self):
        desk = Desk(PLAIN)
        self.assertEqual(desk.say("flat"), "ok")
        flat_text = "part main\nx = pair leaf y y\ny = none\ntell x\ny = none\ny = none"
        self.assertEqual(desk.say("show"), flat_text)
        self.assertEqual(desk.say("flat"), "ok")
        self.assertEqual(desk.say("show"), flat_text)
        self.assertEqual(desk.say("need leaf main 1"), "read 3")
        with self.assertRaises(NoName):
            desk.say("need leaf p 0")
        # The back lines are replaced as well as the other ones.
        desk = Desk("part main\nx = pair w y y\ndo p\nback w\npart p\ntell x\nback v")
        desk.say("flat")
        self.assertEqual(desk.say("show"), "part main\nx = pair w y y\ntell x\nback v\nback w")

    def test_give_flat_give(self):
        desk = Desk("part main\ndo p\ntell x\ndo p\npart p\nx = pair w y y\nx = x")
        shown = []
        for row in ("give", "flat", "give", "flat", "give"):
            self.assertEqual(desk.say(row), "ok")
            shown.append(desk.say("show"))
        # By the ways of p alone the second room is given back late.
        self.assertEqual(shown[0], "part main\ndo p\ntell x\nback w\ndo p\nback w\npart p\nx = pair w y y\nx = x")
        self.assertEqual(
            shown[1], "part main\nx = pair w y y\nx = x\ntell x\nback w\nx = pair w y y\nx = x\nback w"
        )
        self.assertEqual(
            shown[2], "part main\nx = pair w y y\nx = x\ntell x\nback w\nx = pair w y y\nback w\nx = x"
        )
        self.assertEqual(shown[2:], [shown[2]] * 3)

    def test_judge(self):
        self.check(PLAIN, [("judge", "safe")])
        self.check(GIVEN, [("judge", "gone leaf main 1")])
        self.check("part main\nx = pair w y y\ntell x\nback w\nback q", [("judge", "safe")])
        self.check("part main\nx = pair w y y\ntell x\nback w\ntell x", [("judge", "gone w main 2")])
        text = "part main\ndo p\ntell z\ntell x\npart p\nback v\nz = pair v y y\nback v\nx = pair w y y\nback w"
        self.check(text, [("judge", "gone v p 1")])

    def test_most(self):
        self.check("part main", [("most", "0")])
        self.check(PLAIN, [("most", "1")])
        self.check("part main\nx = pair w y y\nx = pair w y y\nback w\nx = pair w y y", [("most", "2")])
        self.check("part main\nagain\nx = pair w y y\nx = pair v y y\nend", [("most", "grows v")])
        self.check("part main\nagain\nx = pair w y y\nback v\nx = pair v y y\nend", [("most", "grows w")])
        self.check(LOOP, [("most", "grows v")])
        self.check("part main\n" + "x = pair w y y\n" * 11 + "tell x", [("most", "11")])

    def test_run(self):
        rows = [("run 0 -", "told"), ("run 0 0", "told -"), ("run 0 1", "full 2"), ("run 2 1", "told w")]
        rows += [("run 2 10", "gone 8"), ("run 1 1", "told w"), ("run 1 11", "full 8"), ("run 2 11", "told w w")]
        rows += [("run 2 111", "full 14"), ("run 9999 111", "told w w w"), ("run 9999 1110", "gone 20")]
        self.check(LOOP, rows)

    # By the program as it is, its back lines too.
    def test_run_with_back_lines_and_without(self):
        self.check(PLAIN, [("run 1 -", "told leaf"), ("run 0 -", "full 0")])
        self.check(GIVEN, [("run 1 -", "gone 10"), ("run 0 -", "full 1")])

    def test_run_with_sixty_choices(self):
        self.check(LOOP, [("run 99 " + "1" * 60, "told" + " w" * 60)])
        self.check("part main", [("run 0 " + "01" * 30, "told")])

    def test_by_the_functions(self):
        for number, program in enumerate(drawn_programs(60)):
            desk = Desk(show_program(program))
            self.check_all(desk, program, number)
            self.assertEqual(desk.say("give"), "ok")
            program = put_in(without_backs(program), lean(without_backs(program)))
            self.check_all(desk, program, number)
            self.assertEqual(desk.say("judge"), "safe")
            self.assertEqual(desk.say("flat"), "ok")
            program = flat(program)
            self.check_all(desk, program, number)
            self.assertEqual(desk.say("give"), "ok")
            self.check_all(desk, put_in(without_backs(program), lean(without_backs(program))), number)

    def check_all(self, desk, program, number):
        for row, answer in answers(program).items():
            self.assertEqual(desk.say(row), answer, (program, row))
        for size in (0, 1, 3):
            choices = drawn_choices(number + size, 8)
            row = f"run {size} " + "".join(str(choice) for choice in choices)
            self.assertEqual(desk.say(row), run_told(program, size, choices))
        plain = taken_out(program)[0]
        for word in words_of(plain):
            for place in places_of(plain)[number % 5::5]:
                told = need(plain, word, place)
                answer = "done" if told[0] == "done" else f"read {len(told[1]) - 1}"
                self.assertEqual(desk.say("need " + row_of((word, place), plain)), answer)


# What each of these rows is refused with, and the desk answers as before.
class RefusalTests(unittest.TestCase):
    def check(self, error, row, text=GIVEN):
        desk = Desk(text)
        before = [desk.say("show"), desk.say("lean"), desk.say("judge"), desk.say("most"), desk.say("run 1 -")]
        with self.assertRaises(error) as caught:
            desk.say(row)
        self.assertIs(type(caught.exception), error)
        after = [desk.say("show"), desk.say("lean"), desk.say("judge"), desk.say("most"), desk.say("run 1 -")]
        self.assertEqual(before, after)

    def test_words_too_few_and_too_many(self):
        for row in ("need", "need leaf", "need leaf main", "need leaf main 1 1", "run", "run 1", "run 1 - -", "run 1 0 1"):
            self.check(NoRow, row)
        for row in ("show", "lean", "give", "flat", "judge", "most"):
            for more in (" x", " 1", " -", " " + row):
                self.check(NoRow, row + more)

    def test_blanks(self):
        for row in ("show", "lean", "give", "flat", "judge", "most", "need leaf main 1", "run 1 -"):
            for other in (" " + row, row + " ", row.replace(" ", "  "), "\t" + row, row.replace(" ", "\t")):
                if other != row:
                    self.check(NoRow, other)
        self.check(NoRow, "")
        self.check(NoRow, " ")

    def test_line_ends(self):
        for row in ("show", "need leaf main 1", "run 1 -", "run 1 01"):
            for other in (row + "\n", "\n" + row, row.replace(" ", "\n"), row + "\nshow"):
                if other != row:
                    self.check(NoRow, other)

    def test_other_words(self):
        for row in ("Show", "shows", "sho", "read", "done", "ok", "back", "part main", "put", "tell x", "?"):
            self.check(NoRow, row)

    def test_numbers(self):
        for number in ("12345", "01", "00", "+1", "-1", "1.0", "1_0", "", "x", "0x1", "00000", "\u0661", "1\u00b2"):
            self.check(NoRow, f"need leaf main {number}")
            self.check(NoRow, f"run {number} -")
        self.check(NoPlace, "need leaf main 9999")
        self.check(NoPlace, "need leaf main 10")
        desk = Desk(GIVEN)
        self.assertEqual(desk.say("need leaf main 0"), "done")
        self.assertEqual(desk.say("run 9999 -"), desk.say("run 1 -"))

    def test_choices(self):
        for choices in ("2", "012", "0 1", "0" * 61, "01" * 40, "", "--", "-0", "0-", "a", "0,1", "+"):
            self.check(NoRow, f"run 1 {choices}")
        self.assertEqual(Desk(GIVEN).say("run 1 " + "0" * 60), Desk(GIVEN).say("run 1 -"))

    def test_names_that_are_none(self):
        for name in ("Leaf", "leaf1", "abcdefghi", "pair", "end", "part", "first", "", "-", "1"):
            self.check(NoRow, f"need {name} main 1")
            self.check(NoRow, f"need leaf {name} 1")

    def test_what_is_no_text(self):
        for thing in (None, 0, 1, -3, True, False, [], ["show"], (), ("show",), [["show"]], ("run", 1, "-")):
            self.check(NoRow, thing)

    def test_parts_words_and_places_that_there_are_not(self):
        self.check(NoName, "need leaf q 1")
        self.check(NoName, "need leaf leaf 1")
        self.check(NoName, "need leaf q 99")
        self.check(NoName, "need nix q 1")
        self.check(NoWord, "need nix main 1")
        self.check(NoWord, "need nix main 99")
        # A word of back lines alone, a box, a part.
        self.check(NoWord, "need other main 1")
        self.check(NoWord, "need x main 1")
        self.check(NoWord, "need main main 1")
        # By the places of the program without back lines.
        self.check(NoPlace, "need leaf main 6")
        self.check(NoPlace, "need leaf p 2")
        self.check(NoPlace, "need odd lone 2")
        for row in ("need leaf main 5", "need leaf p 1", "need odd lone 1"):
            self.assertEqual(Desk(GIVEN).say(row)[:4], Desk(PLAIN).say(row)[:4])
        self.check(NoRow, "need leaf q 01")
        self.check(NoRow, "need Nix q 1")


class DeskTests(unittest.TestCase):
    def test_a_text_that_is_none(self):
        for text, at in (("", 0), ("tell x", 0), ("part main\nx", 1), ("part main\ntell x\n", 2), ("part\npart main", 0)):
            with self.assertRaises(NoText) as caught:
                Desk(text)
            self.assertEqual((type(caught.exception), caught.exception.at), (NoText, at))
        for text in ("part main\nend", "part main\ndo p", "part main\npart main"):
            with self.assertRaises(NoProgram) as caught:
                Desk(text)
            self.assertIs(type(caught.exception), NoProgram)
        self.assertTrue(issubclass(NoRow, RoomError))

    def test_two_desks_of_one_text(self):
        one_desk, other = Desk(GIVEN), Desk(GIVEN)
        self.assertEqual(one_desk.say("give"), "ok")
        self.assertEqual(one_desk.say("flat"), "ok")
        self.assertEqual(other.say("show"), GIVEN)
        self.assertEqual(other.say("judge"), "gone leaf main 1")
        self.assertEqual(other.say("give"), "ok")
        self.assertNotEqual(one_desk.say("show"), other.say("show"))
        self.assertEqual(Desk(GIVEN).say("show"), GIVEN)

    # The lean manner put in, on just the most rooms: told by each row of choices.
    def test_given_and_run_on_the_most_rooms(self):
        checked = 0
        for number, program in enumerate(busy_programs(60)):
            desk, plain = Desk(show_program(program)), Desk(show_program(program))
            desk.say("give")
            most_told = desk.say("most")
            if not most_told.startswith("grows"):
                for draw in range(4):
                    choices = "".join(str(choice) for choice in drawn_choices(4 * number + draw, 10))
                    self.assertEqual(desk.say(f"run {most_told} {choices}"), plain.say(f"run 9999 {choices}"))
                    checked += 1
        self.assertGreater(checked, 60)

    def test_at_the_bounds(self):
        programs = bound_programs() + [kept for why, kept, passed in back_bounds()]
        for number, program in enumerate(programs):
            desk = Desk(show_program(program))
            rows = ["show", "lean", "judge", "most", "run 9 " + "10" * 30, "give", "judge", "most", "run 3 " + "1" * 60]
            rows += ["flat", "lean", "give", "judge", "show"]
            for word in words_of(program)[:1]:
                rows.insert(0, "need " + row_of((word, places_of(program)[-1]), program))
            for row in rows:
                began = time.monotonic()
                self.assertIs(type(desk.say(row)), str)
                self.assertLess(time.monotonic() - began, 8)
            self.assertIs(is_program(read_program(desk.say("show"))), True)


if __name__ == "__main__":
    unittest.main()
