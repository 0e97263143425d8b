"""Shortest walks from spot to spot, by the numbers of spots."""


# From each spot that a walk from one of the starts comes to, to (the fewest steps to it, the spot ahead of it there).
# A walk doesn't go on from a spot that is shut.
def reached(steps, starts, shut):
    later = {}
    for n, line, m, m_place in steps:
        if n not in shut:
            later.setdefault(n, []).append(m)
    found = dict([(n, (0, None)) for n in starts])
    layer = list(found)
    while layer:
        further = []
        for n in layer:
            for m in later.get(n, []):
                if m not in found:
                    found[m] = (found[n][0] + 1, n)
                    further.append(m)
        layer = further
    return found


# Of shortest runs.
def nearest(steps):
    return reached(steps, [0], {})


# The spots of a shortest walk, its start first.
def walk_to(found, n):
    backward = []
    while n is not None:
        backward.append(n)
        n = found[n][1]
    return list(reversed(backward))
