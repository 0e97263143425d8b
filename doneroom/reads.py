"""Programs read from texts [8]."""

from doneroom.errors import NoProgram, NoText
from doneroom.lines import gives, is_line
from doneroom.names import is_name
from doneroom.programs import is_program


def read_program(text):
    names = []
    bodies = []
    for at, row in enumerate(text.split("\n")):
        words = row.split(" ")
        if is_part_row(words):
            names.append(words[1])
            bodies.append([])
        else:
            line = line_of_words(words)
            if line is None or not bodies:
                raise NoText(at)
            bodies[-1].append(line)
    program = tuple([(name, tuple(body)) for name, body in zip(names, bodies)])
    if not is_program(program):
        raise NoProgram("the parts of this text are no program")
    return program


def is_part_row(words):
    return len(words) == 2 and words[0] == "part" and is_name(words[1])


def line_of_words(words):
    if len(words) > 2 and words[1] == "=":
        line = giving_line(words[0], tuple(words[2:]))
        return line if is_line(line) else None
    line = tuple(words)
    # A line that gives something is written with = alone, never in the order of its tuple.
    return line if is_line(line) and gives(line) is None else None


# May be no line: that is looked at behind this.
def giving_line(box, words):
    if words == ("none",):
        return ("none", box)
    if words[0] in ("pair", "first", "second"):
        return (words[0], box) + words[1:]
    return ("same", box) + words
