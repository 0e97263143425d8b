"""Where rooms of a word can be in use by a manner: from their making until they are given back [22]."""

from doneroom.flows import place_of
from doneroom.lines import made_word
from doneroom.nearest import nearest, reached, walk_to
from doneroom.spots import spots, spots_at


# The numbers of the spots at which the manner gives rooms of the word back.
def giving_spots(program, manner, word):
    places = dict([(place, True) for other, place in manner if other == word])
    return dict([(n, True) for n, spot in enumerate(spots(program)) if place_of(spot) in places])


# The spots behind the lines that make rooms of the word.
def made_spots(steps, word):
    return [m for n, line, m, m_place in steps if made_word(line) == word]


# Walks from the making of a room of the word on, as long as it is in use: at each spot that they come to it is so ahead
# of the givings.
def used_spots(program, steps, manner, word):
    return reached(steps, made_spots(steps, word), giving_spots(program, manner, word))


# A run that comes by one of the walks to the spot.
def run_in_use(program, steps, used, n):
    walk = walk_to(used, n)
    # The spot behind a pair line is come to from that line alone: any run to it has made the room.
    ahead = walk_to(nearest(steps), walk[0])
    return spots_at(program, ahead + walk[1:])
