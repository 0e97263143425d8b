"""Blocks of lines: either .. or .. end and again .. end [6]."""


def is_blocks(lines):
    opened = []
    for line in lines:
        if line[0] == "either" or line[0] == "again":
            opened.append(line[0])
        elif line[0] == "or":
            if not opened or opened[-1] != "either":
                return False
            # From here on the block wants its end alone: a second or is refused above.
            opened[-1] = "or"
        elif line[0] == "end":
            if not opened or opened[-1] == "either":
                return False
            opened.pop()
    return len(opened) == 0


def end_of(lines, k):
    return found_behind(lines, k, "end")


def or_of(lines, k):
    return found_behind(lines, k, "or")


def head_of(lines, k):
    level = 0
    for j in range(k - 1, -1, -1):
        level += level_change(lines[j])
        if level == 1:
            return j
    return None


# How much deeper within blocks the lines behind this one stand.
def level_change(line):
    if line[0] == "either" or line[0] == "again":
        return 1
    return -1 if line[0] == "end" else 0


# Blocks that open behind line k are passed over whole.
def found_behind(lines, k, kind):
    level = 0
    for j in range(k + 1, len(lines)):
        if level == 0 and lines[j][0] == kind:
            return j
        level += level_change(lines[j])
    return None
