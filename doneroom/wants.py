"""The wants: by which paths boxes lead to rooms that can still be read [19]."""

from doneroom.lines import gives, letter_of, reads
from doneroom.programs import boxes_of
from doneroom.readers import reader_of
from doneroom.rules import Rules, least_things
from doneroom.steps import steps_of


def wants(program):
    return reader_of(least_things(want_rules(program)))


def want_rules(program):
    rules = Rules()
    boxes = boxes_of(program)
    for n, line, m, m_place in steps_of(program):
        given = None if line is None else gives(line)
        for box in boxes:
            if box != given:
                rules.keep((0, m, box), (0, n, box))
        if line is not None and reads(line) is not None:
            rules.end((0, n, reads(line)))
        if given is not None:
            add_given(rules, line, n, (0, m, given))
    return rules


# What is wanted of the box that is given something is wanted of where that comes from.
def add_given(rules, line, n, target):
    if line[0] == "same":
        rules.keep(target, (0, n, line[2]))
    elif line[0] == "pair":
        rules.unwrap(target, 1, (0, n, line[3]))
        rules.unwrap(target, 2, (0, n, line[4]))
    elif letter_of(line) is not None:
        rules.wrap(target, letter_of(line), (0, n, line[2]))
