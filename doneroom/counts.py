"""How many rooms are in use by a manner at each step of a run [27]."""

from doneroom.flows import line_of, place_of
from doneroom.lines import made_word
from doneroom.puts import words_by_place


def counted(program, manner, run):
    giving = words_by_place(manner)
    in_use = {}
    numbers = []
    for step, spot in enumerate(run):
        if step > 0:
            add_made(in_use, line_of(program, run[step - 1]))
        ahead = sum(in_use.values())
        for word in giving.get(place_of(spot), []):
            in_use[word] = 0
        numbers.append((ahead, sum(in_use.values())))
    return numbers


def add_made(in_use, line):
    word = made_word(line)
    if word is not None:
        in_use[word] = in_use.get(word, 0) + 1
