"""The least path that two readers both take [20].

A couple is a seat of the one and a seat of the other, reached by one path. Couples are gone through layer by layer,
a layer for each length of paths; the rank of a couple is that of its least path among the paths of its layer.
"""

from doneroom.readers import moves_of


def meets(one, seat, other, other_seat):
    came = {(seat, other_seat): None}
    layer = {(seat, other_seat): 0}
    one_moves = moves_of(one)
    other_moves = moves_of(other)
    one_ends = dict([(end, True) for end in one[0]])
    other_ends = dict([(end, True) for end in other[0]])
    while layer:
        met = [(layer[couple], couple) for couple in layer if couple[0] in one_ends and couple[1] in other_ends]
        if met:
            return path_to(came, min(met)[1])
        layer = next_layer(layer, came, one_moves, other_moves)
    return None


def next_layer(layer, came, one_moves, other_moves):
    found = {}
    for couple in layer:
        for letter in (1, 2):
            for further in couples_behind(couple, letter, one_moves, other_moves):
                step = (layer[couple], letter, couple)
                # What was met ahead has a path with fewer letters.
                if further not in came and (further not in found or step[:2] < found[further][:2]):
                    found[further] = step
    for further in found:
        came[further] = found[further]
    return ranks(found)


def couples_behind(couple, letter, one_moves, other_moves):
    couples = []
    for seat in one_moves.get((couple[0], letter), []):
        couples.extend([(seat, other) for other in other_moves.get((couple[1], letter), [])])
    return couples


# Couples that are reached by the same path have the same rank.
def ranks(found):
    order = {}
    for step in sorted(set([step[:2] for step in found.values()])):
        order[step] = len(order)
    return dict([(couple, order[step[:2]]) for couple, step in found.items()])


def path_to(came, couple):
    path = []
    step = came[couple]
    while step is not None:
        path.append(step[1])
        step = came[step[2]]
    return list(reversed(path))
