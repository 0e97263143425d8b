"""Programs: tuples of parts, and what stands in them [7, 9]."""

from doneroom.blocks import is_blocks
from doneroom.lines import is_line
from doneroom.names import is_name
from doneroom.sizes import flat_size, own_size

MOST_PARTS = 5
MOST_LINES = 48
MOST_BACKS = 500
MOST_BLOCKS = 6
MOST_BOXES = 5
MOST_WORDS = 5
MOST_WAYS = 24


def is_program(thing):
    if not isinstance(thing, tuple) or not 1 <= len(thing) <= MOST_PARTS:
        return False
    if not all([is_part(part) for part in thing]):
        return False
    return has_right_names(thing) and keeps_bounds(thing)


def boxes_of(program):
    boxes = []
    for line in all_lines(program):
        boxes.extend(boxes_in(line))
    return sorted(set(boxes))


def words_of(program):
    return sorted(set([line[2] for line in all_lines(program) if line[0] == "pair"]))


def places_of(program):
    places = []
    for part in range(len(program)):
        places.extend([(part, gap) for gap in range(len(program[part][1]) + 1)])
    return places


def part_number(program, name):
    return [part[0] for part in program].index(name)


def is_part(thing):
    if not isinstance(thing, tuple) or len(thing) != 2:
        return False
    if not is_name(thing[0]) or not isinstance(thing[1], tuple):
        return False
    return all([is_line(line) for line in thing[1]]) and is_blocks(thing[1])


def has_right_names(parts):
    names = [part[0] for part in parts]
    if len(set(names)) != len(names):
        return False
    for number, part in enumerate(parts):
        behind = names[number + 1:]
        if not all([line[1] in behind for line in part[1] if line[0] == "do"]):
            return False
    return True


def keeps_bounds(parts):
    if len(boxes_of(parts)) > MOST_BOXES:
        return False
    backs = [line[1] for line in all_lines(parts) if line[0] == "back"]
    if len(set(words_of(parts)) | set(backs)) > MOST_WORDS:
        return False
    whole = flat_size(parts)
    if whole[3] > MOST_WAYS:
        return False
    return is_small(whole) and all([is_small(own_size(lines)) for name, lines in parts])


def is_small(size):
    return size[0] <= MOST_LINES and size[1] <= MOST_BACKS and size[2] <= MOST_BLOCKS


def all_lines(program):
    lines = []
    for part in program:
        lines.extend(part[1])
    return lines


def boxes_in(line):
    if line[0] == "pair":
        return [line[1], line[3], line[4]]
    if line[0] in ("first", "second", "same", "none", "tell"):
        return list(line[1:])
    return []
