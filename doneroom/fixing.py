"""Fixed rooms for making spots, as few as can be, and trees that show that so many are too few [30, 31]."""

from doneroom.clashes import clashes, making_spots
from doneroom.errors import TooBig
from doneroom.growing import growth

MOST_MAKERS = 8


def fixed(program, manner):
    makers = checked_makers(program)
    grown = growth(program, manner)
    if grown is not None:
        return grown
    clashing = clashes(program, manner)
    many = 0
    rooms = cases(makers, clashing, many, ())[0]
    while rooms is None:
        many += 1
        rooms = cases(makers, clashing, many, ())[0]
    return ("rooms", many, list(zip(makers, rooms)))


def too_few(program, manner, many):
    makers = checked_makers(program)
    return cases(makers, clashes(program, manner), many, ())[1]


def shows_few(program, manner, many, tree):
    makers = checked_makers(program)
    return is_tree(makers, clashes(program, manner), many, {}, tree)


def checked_makers(program):
    makers = making_spots(program)
    if len(makers) > MOST_MAKERS:
        raise TooBig(f"there are more than {MOST_MAKERS} making spots")
    return makers


# The first makers stand in the rooms that are taken; told is (rooms of all makers, None) where the others can be put
# too, else (None, a tree that shows that they can't).
def cases(makers, clashing, many, taken):
    clash = last_clash(makers, clashing, taken)
    if clash is not None:
        return (None, ("clash",) + clash)
    if len(taken) == len(makers):
        return (taken, None)
    branches = []
    for room in range(open_rooms(taken, many)):
        found = cases(makers, clashing, many, taken + (room,))
        if found[0] is not None:
            return found
        branches.append(found[1])
    return (None, ("put", makers[len(taken)], tuple(branches)))


# A clash of the maker that was put last with one in its room.
def last_clash(makers, clashing, taken):
    for k in range(len(taken) - 1):
        couple = (makers[k], makers[len(taken) - 1])
        if taken[k] == taken[-1] and couple in clashing:
            return couple
    return None


# Rooms are used by rising numbers, so those used so far and the next one are the first ones.
def open_rooms(taken, many):
    return min(len(set(taken)) + 1, many)


def is_tree(makers, clashing, many, rooms, tree):
    if tree[0] == "clash":
        couple = (tree[1], tree[2])
        return couple in clashing and couple[0] in rooms and rooms[couple[0]] == rooms.get(couple[1])
    n = tree[1]
    branches = tree[2]
    if n not in makers or n in rooms or len(branches) != open_rooms(tuple(rooms.values()), many):
        return False
    for room, branch in enumerate(branches):
        further = dict(rooms)
        further[n] = room
        if not is_tree(makers, clashing, many, further, branch):
            return False
    return True
