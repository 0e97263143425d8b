"""Manners of giving back: the greatest safe one, the lean one, and runs by which they give back [22, 23]."""

from doneroom.flows import place_of
from doneroom.holds import holds
from doneroom.meetings import meeting_couples
from doneroom.programs import boxes_of, places_of, words_of
from doneroom.spots import spots
from doneroom.steps import steps_of
from doneroom.uses import run_in_use, used_spots
from doneroom.wants import wants


def all_done(program):
    wanted = wants(program)
    manner = []
    for word in words_of(program):
        needed = needed_places(program, word, wanted)
        manner.extend([(word, place) for place in places_of(program) if place not in needed])
    return manner


def needed_places(program, word, wanted):
    listed = spots(program)
    seats = []
    for n in range(len(listed)):
        seats.extend([(0, n, box) for box in boxes_of(program)])
    met = meeting_couples(holds(program, word), wanted, [(seat, seat) for seat in seats])
    return dict([(place_of(listed[couple[0][1]]), True) for couple in met])


def lean(program):
    greatest = all_done(program)
    listed = spots(program)
    steps = steps_of(program)
    manner = []
    for word in words_of(program):
        used = used_spots(program, steps, greatest, word)
        come_to = dict([(place_of(listed[n]), True) for n in used])
        manner.extend([pair for pair in greatest if pair[0] == word and pair[1] in come_to])
    return manner


def first_given(program, manner, word, place):
    if (word, place) not in manner:
        return None
    steps = steps_of(program)
    used = used_spots(program, steps, manner, word)
    for n, spot in enumerate(spots(program)):
        if n in used and place_of(spot) == place:
            return run_in_use(program, steps, used, n)
    return None
