"""Paths from boxes to rooms, at the end of a plain run [15]."""

from doneroom.plains import room_within, traced


def led(program, run, box, path):
    trace = traced(program, run)
    room = dict(trace[3])[box]
    for letter in path:
        room = room_within(trace[0], room, letter)
    return room


def paths_to(program, run, room, most):
    trace = traced(program, run)
    found = []
    for box, held in trace[3]:
        found.extend([(box, path) for path in paths_between(trace[0], held, room, most)])
    return sorted(found)


def paths_between(rooms, start, room, most):
    found = []
    reached = [([], start)]
    for size in range(most + 1):
        found.extend([path for path, at in reached if at == room])
        reached = one_letter_on(rooms, reached)
    return found


def one_letter_on(rooms, reached):
    further = []
    for path, at in reached:
        if at is not None:
            further.append((path + [1], room_within(rooms, at, 1)))
            further.append((path + [2], room_within(rooms, at, 2)))
    return further
