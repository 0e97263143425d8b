"""Shortest runs to spots, by the numbers of spots."""


# From each spot to (the last step of a shortest run to it, the spot ahead of it there).
def nearest(steps):
    later = {}
    for n, line, m, m_place in steps:
        later.setdefault(n, []).append(m)
    found = {0: (0, None)}
    layer = [0]
    while layer:
        further = []
        for n in layer:
            for m in later.get(n, []):
                if m not in found:
                    found[m] = (found[n][0] + 1, n)
                    further.append(m)
        layer = further
    return found
