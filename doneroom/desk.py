"""A desk: a program that is asked and changed by rows of text [33]."""

from doneroom.errors import NoName, NoRow
from doneroom.flats import flat
from doneroom.manners import all_done, lean
from doneroom.most import most
from doneroom.needs import need
from doneroom.programs import part_number
from doneroom.puts import put_in, taken_out
from doneroom.reads import read_program
from doneroom.rows import choices_in, have_forms
from doneroom.shelves import on_shelf
from doneroom.shows import show_program

FORMS = {
    "show": (),
    "need": ("name", "name", "number"),
    "lean": (),
    "give": (),
    "flat": (),
    "judge": (),
    "most": (),
    "run": ("number", "choices"),
}


class Desk:
    def __init__(self, text):
        self.program = read_program(text)

    def say(self, row):
        words = words_of_row(row)
        if words[0] == "show":
            return show_program(self.program)
        if words[0] == "give":
            plain = taken_out(self.program)[0]
            self.program = put_in(plain, lean(plain))
            return "ok"
        if words[0] == "flat":
            self.program = flat(self.program)
            return "ok"
        if words[0] == "run":
            return run_answer(self.program, int(words[1]), choices_in(words[2]))
        return asked_answer(words, taken_out(self.program))


def words_of_row(row):
    if not isinstance(row, str):
        raise NoRow("a row is a text")
    words = row.split(" ")
    if words[0] not in FORMS or not have_forms(words[1:], FORMS[words[0]]):
        raise NoRow("no row of a desk is like this")
    return words


def run_answer(program, size, choices):
    told = on_shelf(program, choices, size)
    if told[0] == "told":
        return " ".join(["told"] + told[2])
    return " ".join([told[0], str(told[1])])


# Of rows that go by the program without its back lines, and by the manner that these were.
def asked_answer(words, taken):
    program = taken[0]
    if words[0] == "need":
        return need_answer(program, words[1], words[2], int(words[3]))
    if words[0] == "lean":
        pairs = [show_pair(program, pair) for pair in lean(program)]
        return ", ".join(pairs) if pairs else "nothing"
    if words[0] == "judge":
        return judge_answer(program, taken[1])
    return most_answer(program, taken[1])


def need_answer(program, word, part, gap):
    if part not in [name for name, lines in program]:
        raise NoName(f"there is no part {part}")
    told = need(program, word, (part_number(program, part), gap))
    if told[0] == "done":
        return "done"
    last = len(told[1]) - 1
    return f"read {last}"


# No paper is asked here, so it is enough to know which pairs are done.
def judge_answer(program, manner):
    done = all_done(program)
    for pair in manner:
        if pair not in done:
            return "gone " + show_pair(program, pair)
    return "safe"


def most_answer(program, manner):
    told = most(program, manner)
    return str(told[1]) if told[0] == "most" else "grows " + told[1]


def show_pair(program, pair):
    place = pair[1]
    return " ".join([pair[0], program[place[0]][0], str(place[1])])
