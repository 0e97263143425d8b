"""Spots of a program, and where a run may go on from them [9, 10, 11].

A spot is a tuple (way, part, k, head).
"""

from doneroom.blocks import end_of, head_of, or_of
from doneroom.programs import part_number


def first_spot():
    return ((), 0, 0, False)


def place_of(spot):
    return None if spot[3] else (spot[1], spot[2])


def line_of(program, spot):
    lines = program[spot[1]][1]
    if spot[3] or spot[2] == len(lines):
        return None
    return lines[spot[2]]


def next_spots(program, spot):
    lines = program[spot[1]][1]
    if spot[3]:
        return [at_gap(spot, end_of(lines, spot[2]) + 1), at_gap(spot, spot[2] + 1)]
    line = line_of(program, spot)
    if line is None:
        return behind_do(spot)
    if line[0] == "do":
        way = spot[0] + ((spot[1], spot[2]),)
        return [(way, part_number(program, line[1]), 0, False)]
    return next_in_part(lines, spot)


def next_in_part(lines, spot):
    k = spot[2]
    kind = lines[k][0]
    if kind == "either":
        return [at_gap(spot, k + 1), at_gap(spot, or_of(lines, k) + 1)]
    if kind == "or":
        return [at_gap(spot, end_of(lines, k) + 1)]
    if kind == "again":
        return [at_head(spot, k)]
    if kind == "end" and lines[head_of(lines, k)][0] == "again":
        return [at_head(spot, head_of(lines, k))]
    return [at_gap(spot, k + 1)]


# The way's last do line tells where the run goes on; the first part was come to by none.
def behind_do(spot):
    way = spot[0]
    if not way:
        return []
    return [(way[:-1], way[-1][0], way[-1][1] + 1, False)]


def at_gap(spot, k):
    return (spot[0], spot[1], k, False)


def at_head(spot, k):
    return (spot[0], spot[1], k, True)
