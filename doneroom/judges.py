"""Manners judged: safe, with a paper for each pair, or not, with a run [24]."""

from doneroom.flows import place_of
from doneroom.holds import holds
from doneroom.needs import check_asked, need
from doneroom.spots import spots


def judged(program, manner):
    # All pairs are looked at ahead of the first answer: a fault of a later one is refused all the same.
    for word, place in manner:
        check_asked(program, word, place)
    come_to = dict([(place_of(spot), True) for spot in spots(program)])
    kept = {}
    papers = []
    for word, place in manner:
        told = need(program, word, place) if place in come_to else unmet_need(program, word, kept)
        if told[0] == "read":
            return ("gone", word, place, told[1])
        papers.append((word, place, told[1]))
    return ("safe", papers)


# Where no run comes to the place, nothing is late: the holds of the word are a paper for each such place, and reckoned
# once, since there may be many.
def unmet_need(program, word, kept):
    if word not in kept:
        kept[word] = holds(program, word)
    return ("done", (list(kept[word][0]), list(kept[word][1])))
