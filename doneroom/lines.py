"""Lines of a program: tuples, a word for the kind first and then names [5]."""

from doneroom.names import is_name

NAMES_BEHIND = {
    "pair": 4,
    "first": 2,
    "second": 2,
    "same": 2,
    "none": 1,
    "tell": 1,
    "back": 1,
    "either": 0,
    "or": 0,
    "again": 0,
    "end": 0,
    "do": 1,
}
GIVING = ("pair", "first", "second", "same", "none")


def is_line(thing):
    if not isinstance(thing, tuple) or len(thing) == 0:
        return False
    # Only texts are looked up, since a list in the first place can't be a key.
    if not isinstance(thing[0], str) or thing[0] not in NAMES_BEHIND:
        return False
    if len(thing) != 1 + NAMES_BEHIND[thing[0]]:
        return False
    return all([is_name(name) for name in thing[1:]])


def gives(line):
    return line[1] if line[0] in GIVING else None


def reads(line):
    if line[0] == "first" or line[0] == "second":
        return line[2]
    return line[1] if line[0] == "tell" else None


# The word under which the line, if there is one, makes a room, or None.
def made_word(line):
    return line[2] if line is not None and line[0] == "pair" else None


# The letter of paths [15] by which the line goes from the room that it reads.
def letter_of(line):
    if line[0] == "first":
        return 1
    return 2 if line[0] == "second" else None
