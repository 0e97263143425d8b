"""Readers: ends and moves between seats, by which paths are taken [16].

What is at a seat is kept here as a dict of things, each with True: END where the seat is an end, and
(letter, seat) for each move from it.
"""

END = ()


def takes(reader, seat, path):
    moves = moves_of(reader)
    reached = {seat: True}
    for letter in path:
        further = {}
        for stop in reached:
            for other in moves.get((stop, letter), []):
                further[other] = True
        reached = further
    return any([end in reached for end in reader[0]])


def at_seat(reader, seat):
    pairs = [(letter, other) for start, letter, other in reader[1] if start == seat]
    return (seat in reader[0], sorted(pairs))


# From (seat, letter) to the seats to which moves with the letter lead from there.
def moves_of(reader):
    moves = {}
    for start, letter, other in reader[1]:
        moves.setdefault((start, letter), []).append(other)
    return moves


# A seat at which nothing is has no key.
def things_of(reader):
    things = {}
    for seat in reader[0]:
        add_thing(things, seat, END)
    for start, letter, other in reader[1]:
        add_thing(things, start, (letter, other))
    return things


def add_thing(things, seat, thing):
    there = things.setdefault(seat, {})
    there[thing] = True


def reader_of(things):
    ends = []
    moves = []
    for seat in things:
        if END in things[seat]:
            ends.append(seat)
        moves.extend([(seat, thing[0], thing[1]) for thing in things[seat] if thing != END])
    return (sorted(ends), sorted(moves))
