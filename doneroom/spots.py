"""All spots of a program, in the order by which they are numbered [12]."""

from doneroom.flows import first_spot, next_spots


def spots(program):
    met = {}
    # A list of what is still to be walked through, since a recursion here could go hundreds of calls deep.
    waiting = [first_spot()]
    while waiting:
        spot = waiting.pop()
        if spot not in met:
            met[spot] = True
            for later in reversed(next_spots(program, spot)):
                waiting.append(later)
    return list(met)


def spots_at(program, numbers):
    listed = spots(program)
    return [listed[n] for n in numbers]
