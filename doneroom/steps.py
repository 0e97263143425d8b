"""The steps that runs can take, by the numbers of spots [12]."""

from doneroom.flows import line_of, next_spots, place_of
from doneroom.spots import spots


# A tuple (n, line of n, m, place of m) for each spot n and each next one m of it.
def steps_of(program):
    listed = spots(program)
    numbers = dict([(spot, n) for n, spot in enumerate(listed)])
    steps = []
    for n, spot in enumerate(listed):
        line = line_of(program, spot)
        for later in next_spots(program, spot):
            steps.append((n, line, numbers[later], place_of(later)))
    return steps
