"""Plain runs: what is made, read and told where nothing is given back [14]."""

from doneroom.flows import line_of
from doneroom.lines import gives, letter_of, reads
from doneroom.programs import boxes_of

NOTHING_TOLD = "-"


def traced(program, run):
    rooms = []
    read = []
    told = []
    held = dict([(box, None) for box in boxes_of(program)])
    # The line of the last spot isn't done: the run stands ahead of it.
    for step in range(len(run) - 1):
        line = line_of(program, run[step])
        if line is None:
            continue
        if room_read(line, held) is not None:
            read.append((step, room_read(line, held)))
        if line[0] == "tell":
            told.append(word_told(rooms, held[line[1]]))
        if line[0] == "pair":
            rooms.append((line[2], held[line[3]], held[line[4]], step + 1))
        if gives(line) is not None:
            held[gives(line)] = given_by(line, rooms, held)
    return (rooms, read, told, sorted(held.items()))


def room_read(line, held):
    return None if reads(line) is None else held[reads(line)]


def word_told(rooms, room):
    return NOTHING_TOLD if room is None else rooms[room][0]


# Of a pair line the room stands in rooms already, as the last one.
def given_by(line, rooms, held):
    if line[0] == "pair":
        return len(rooms) - 1
    if line[0] == "same":
        return held[line[2]]
    letter = letter_of(line)
    return None if letter is None else room_within(rooms, held[line[2]], letter)


# A room's tuple has its first at index 1 and its second at index 2, just as the letters are.
def room_within(rooms, room, letter):
    return None if room is None else rooms[room][letter]
