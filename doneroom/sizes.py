"""How great parts and flat programs are, for the bounds of programs [7].

A size is a tuple (lines that are no back lines, back lines, blocks within one another, ways).
The flat program is never written out here: of things that are no program it may be far too long.
"""

from doneroom.blocks import level_change

UNENTERED_DO = (1, 0, 0, 0)


# Each do line of a part by itself is one line.
def own_size(lines):
    return size_with(lines, {})


def flat_size(program):
    sizes = {}
    # A do names a part behind its own one, so from the last part on all that is asked for is there.
    for name, lines in reversed(program):
        sizes[name] = size_with(lines, sizes)
    return sizes[program[0][0]]


def size_with(lines, sizes):
    plain = 0
    backs = 0
    level = 0
    deepest = 0
    ways = 1
    for line in lines:
        level += level_change(line)
        inner = line_size(line, sizes)
        plain += inner[0]
        backs += inner[1]
        deepest = max(deepest, level + inner[2])
        ways += inner[3]
    return (plain, backs, deepest, ways)


def line_size(line, sizes):
    if line[0] == "do":
        return sizes.get(line[1], UNENTERED_DO)
    return (0, 1, 0, 0) if line[0] == "back" else (1, 0, 0, 0)
