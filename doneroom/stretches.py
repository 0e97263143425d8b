"""Runs by which a path leads from a box to a room of a word [18]."""

from doneroom.origins import origins_of, run_through
from doneroom.readers import END


def way_to(program, word, n, box, path, place=None, late=0):
    origins = origins_of(program, word, place)
    # From each seat that is reached to the moves gone through: the last one is the earliest in the run.
    reached = {(late, n, box): []}
    for letter in path:
        reached = one_letter_on(origins, reached, letter)
    for seat in reached:
        if (seat, END) in origins.sources:
            return run_through(program, origins, [(seat, END)] + list(reversed(reached[seat])))
    return None


def one_letter_on(origins, reached, letter):
    further = {}
    for seat in reached:
        for thing in origins.settled.get(seat, []):
            if thing != END and thing[0] == letter and thing[1] not in further:
                further[thing[1]] = reached[seat] + [(seat, thing)]
    return further
