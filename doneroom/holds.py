"""The holds: by which paths boxes can lead to rooms of a word [17]."""

from doneroom.lines import gives, letter_of, made_word
from doneroom.programs import boxes_of
from doneroom.readers import reader_of, things_of
from doneroom.rules import Rules, keeps_rules, least_things
from doneroom.steps import steps_of


def holds(program, word, place=None):
    return reader_of(least_things(hold_rules(program, word, place)))


def is_closed(program, word, place, reader):
    return keeps_rules(hold_rules(program, word, place), things_of(reader))


def hold_rules(program, word, place):
    rules = Rules()
    boxes = boxes_of(program)
    for n, line, m, m_place in steps_of(program):
        # The place of a head is None too, and there no place is come to.
        comes = place is not None and m_place == place
        for late in (0, 1):
            add_step(rules, boxes, line, (late, n), (1 if comes else late, m))
        if made_word(line) == word:
            rules.end((1 if comes else 0, m, line[1]))
    return rules


# Here and there are seats without their boxes.
def add_step(rules, boxes, line, here, there):
    given = None if line is None else gives(line)
    for box in boxes:
        if box != given:
            rules.keep(here + (box,), there + (box,))
    if given is not None:
        add_giving(rules, line, here, there + (given,))


def add_giving(rules, line, here, target):
    if line[0] == "same":
        rules.keep(here + (line[2],), target)
    elif line[0] == "pair":
        rules.wrap(here + (line[3],), 1, target)
        rules.wrap(here + (line[4],), 2, target)
    elif letter_of(line) is not None:
        rules.unwrap(here + (line[2],), letter_of(line), target)
