"""The flat program: one part, each do line replaced by what it does [13]."""

from doneroom.programs import part_number


def flat(program):
    return ((program[0][0], flat_lines(program, 0)),)


# Begun at the first part: a part that none does may be too long when it is flat.
def flat_lines(program, part):
    lines = []
    for line in program[part][1]:
        if line[0] == "do":
            lines.extend(flat_lines(program, part_number(program, line[1])))
        else:
            lines.append(line)
    return tuple(lines)
