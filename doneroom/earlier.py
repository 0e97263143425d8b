"""Whether one manner gives every room back no later than another one [25]."""

from doneroom.programs import words_of
from doneroom.steps import steps_of
from doneroom.uses import giving_spots, run_in_use, used_spots


def no_later(program, one, other):
    steps = steps_of(program)
    for word in words_of(program):
        used = used_spots(program, steps, one, word)
        own = giving_spots(program, one, word)
        for n in giving_spots(program, other, word):
            if n in used and n not in own:
                return ("no", word, run_in_use(program, steps, used, n))
    return ("yes",)
