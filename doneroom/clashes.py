"""Making spots whose rooms are in use at once by a manner [30]."""

from doneroom.flows import line_of
from doneroom.lines import made_word
from doneroom.nearest import reached
from doneroom.spots import spots
from doneroom.steps import steps_of
from doneroom.uses import giving_spots


def clashes(program, manner):
    steps = steps_of(program)
    makers = making_spots(program)
    pairs = {}
    for n, line, m, m_place in steps:
        if made_word(line) is not None:
            shut = giving_spots(program, manner, made_word(line))
            used = reached(steps, [m], shut)
            # Where the room outlasts the givings at another making spot, both are in use behind that one's line.
            for other in makers:
                if other != n and other in used and other not in shut:
                    pairs[(min(n, other), max(n, other))] = True
    return sorted(pairs)


def making_spots(program):
    return [n for n, spot in enumerate(spots(program)) if made_word(line_of(program, spot)) is not None]
