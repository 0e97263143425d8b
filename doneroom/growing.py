"""Whether the rooms in use by a manner grow for ever [28]."""

from doneroom.lines import made_word
from doneroom.nearest import nearest, reached, walk_to
from doneroom.programs import words_of
from doneroom.spots import spots_at
from doneroom.steps import steps_of
from doneroom.uses import giving_spots


# ("grows", word, run, round), the word the least, or None where there is a greatest number.
def growth(program, manner):
    steps = steps_of(program)
    for word in words_of(program):
        shut = giving_spots(program, manner, word)
        for n, line, m, m_place in steps:
            if made_word(line) == word and n not in shut:
                # A round in which the room is made and none of the word given back comes from behind the making to it.
                found = reached(steps, [m], shut)
                if n in found:
                    run = walk_to(nearest(steps), n)
                    return ("grows", word, spots_at(program, run), spots_at(program, [n] + walk_to(found, n)))
    return None
