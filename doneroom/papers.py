"""Papers: closed readers in which no reading behind the place stands [21]."""

from doneroom.flows import line_of
from doneroom.holds import is_closed
from doneroom.lines import reads
from doneroom.spots import spots


def shows_done(program, word, place, reader):
    return is_closed(program, word, place, reader) and not late_reads(program, reader)


# The ends at which the place was come to and the spot's line reads the box.
def late_reads(program, reader):
    lines = [line_of(program, spot) for spot in spots(program)]
    return [end for end in reader[0] if end[0] == 1 and is_read(lines[end[1]], end[2])]


def is_read(line, box):
    return line is not None and reads(line) == box
