"""At which of many couples of seats two readers meet [20, 21]."""

from doneroom.meets import couples_behind
from doneroom.readers import moves_of


# Those of the couples at which some path is taken by both readers, each a key.
def meeting_couples(one, other, couples):
    ahead = couples_ahead(moves_of(one), moves_of(other), couples)
    one_ends = dict([(end, True) for end in one[0]])
    other_ends = dict([(end, True) for end in other[0]])
    waiting = [couple for couple in ahead if couple[0] in one_ends and couple[1] in other_ends]
    met = dict([(couple, True) for couple in waiting])
    while waiting:
        for nearer in ahead[waiting.pop()]:
            if nearer not in met:
                met[nearer] = True
                waiting.append(nearer)
    return dict([(couple, True) for couple in couples if couple in met])


# From the couples, and each one that is reached from them, to those from which one letter leads to it.
def couples_ahead(one_moves, other_moves, couples):
    ahead = dict([(couple, []) for couple in couples])
    waiting = list(ahead)
    while waiting:
        couple = waiting.pop()
        for letter in (1, 2):
            for further in couples_behind(couple, letter, one_moves, other_moves):
                if further not in ahead:
                    ahead[further] = []
                    waiting.append(further)
                ahead[further].append(couple)
    return ahead
