"""Whether a word is needed behind a place, with a shortest run or a paper [21]."""

from doneroom.errors import NoPlace, NoWord
from doneroom.flows import next_spots
from doneroom.holds import holds
from doneroom.origins import origins_of, run_through
from doneroom.papers import late_reads
from doneroom.programs import places_of, words_of
from doneroom.readers import END


def is_done(program, word, place):
    check_asked(program, word, place)
    return not late_reads(program, holds(program, word, place))


def need(program, word, place):
    check_asked(program, word, place)
    reader = holds(program, word, place)
    seats = late_reads(program, reader)
    if not seats:
        return ("done", reader)
    return ("read", shortest_reading(program, word, place, seats))


def check_asked(program, word, place):
    if word not in words_of(program):
        raise NoWord(f"no pair line has the word {word}")
    if place not in places_of(program):
        raise NoPlace(f"there is no place {place} in the program")


def shortest_reading(program, word, place, seats):
    origins = origins_of(program, word, place)
    nearest_one = min([(origins.fewest[(seat, END)], seat) for seat in seats])
    run = run_through(program, origins, [(nearest_one[1], END)])
    return run + next_spots(program, run[-1])
