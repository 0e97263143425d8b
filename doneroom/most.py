"""The most rooms in use by a manner, with a run and a table, or how they grow [28]."""

from doneroom.growing import growth
from doneroom.nearest import nearest, walk_to
from doneroom.programs import words_of
from doneroom.spots import spots, spots_at
from doneroom.steps import steps_of
from doneroom.tables import asked_of, steps_to


# The numbers of the least closed table, by (n, words), each with the one ahead that it rose by last. A number stays 0
# where any run will do.
class Least:
    def __init__(self):
        self.numbers = {}
        self.risen_by = {}
        self.askers = {}

    def open_key(self, key):
        self.numbers[key] = 0
        self.risen_by[key] = None
        self.askers[key] = []

    # Every asker is raised as far as the one ahead asks; those that rose are told.
    def raise_askers(self, key):
        risen = []
        for asker, more in self.askers[key]:
            if self.numbers[asker] < self.numbers[key] + more:
                self.numbers[asker] = self.numbers[key] + more
                self.risen_by[asker] = key
                risen.append(asker)
        return risen


def most(program, manner):
    grown = growth(program, manner)
    if grown is not None:
        return grown
    every = tuple(words_of(program))
    keys = [(n, every) for n in range(len(spots(program)))]
    least = least_table(steps_to(program, manner), keys)
    number = max([least.numbers[key] for key in keys])
    best = [key for key in keys if least.numbers[key] == number]
    table = sorted([(n, words, least.numbers[(n, words)]) for n, words in least.numbers])
    return ("most", number, run_to(program, least, best[0]), table)


# Nothing grows, so the numbers come to rest.
def least_table(ahead, keys):
    least = Least()
    for key in keys:
        least.open_key(key)
    waiting = list(keys)
    while waiting:
        key = waiting.pop()
        for nearer, more in asked_of(ahead, key):
            if nearer not in least.numbers:
                least.open_key(nearer)
                waiting.append(nearer)
            least.askers[nearer].append((key, more))
    waiting = list(least.numbers)
    while waiting:
        waiting.extend(least.raise_askers(waiting.pop()))
    return least


def run_to(program, least, key):
    backward = []
    while least.risen_by[key] is not None:
        backward.append(key[0])
        key = least.risen_by[key]
    ahead = walk_to(nearest(steps_of(program)), key[0])
    return spots_at(program, ahead + list(reversed(backward)))
