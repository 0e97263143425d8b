"""By how few steps each entry of the holds comes about, and out of which entries [18, 21].

An entry is a pair (seat, thing). An end comes about by a run that makes a room of the word and comes to the spot of
the seat, its box holding that room there. A move from a seat to another one comes about by a stretch of a run, from
behind the spot of the other one to that of the seat: what the box of the other one held at first stands, by the letter,
in what the box of the seat holds at last. The spots of an entry are those of its sources, one after the other, and then
the spot of its own seat.
"""

from doneroom.holds import hold_rules
from doneroom.nearest import nearest, walk_to
from doneroom.readers import END
from doneroom.rules import least_things
from doneroom.spots import spots_at
from doneroom.steps import steps_of


class Origins:
    def __init__(self, rules, near):
        self.rules = rules
        self.near = near
        self.fewest = {}
        self.sources = {}
        self.settled = {}
        self.unlocked = {}
        self.offers = {}

    def offer(self, seat, thing, steps, sources):
        entry = (seat, thing)
        if entry not in self.fewest or steps < self.fewest[entry]:
            self.fewest[entry] = steps
            self.offers.setdefault(steps, []).append((entry, sources))

    # Entries are settled by rising steps, and each makes only longer ones: what is settled stays the fewest.
    def settle_all(self):
        while self.offers:
            steps = min(self.offers)
            due = self.offers.pop(steps)
            for entry, sources in due:
                if self.fewest[entry] == steps:
                    self.sources[entry] = sources
                    self.settle(entry[0], entry[1], steps)

    def settle(self, seat, thing, steps):
        entry = (seat, thing)
        self.settled.setdefault(seat, []).append(thing)
        for other in self.rules.kept.get(seat, []):
            self.offer(other, thing, steps + 1, (entry,))
        for other, move in self.unlocked.get(seat, {}).items():
            self.offer(other, thing, steps + self.fewest[move] + 1, (entry, move))
        if thing != END:
            for other in self.rules.unwrapped.get((seat, thing[0]), []):
                self.unlock(entry, other)

    # Of several moves by which one seat opens to another the first settled has the fewest steps.
    def unlock(self, move, other):
        seat = move[1][1]
        others = self.unlocked.setdefault(seat, {})
        if other not in others:
            others[other] = move
            for thing in self.settled.get(seat, []):
                steps = self.fewest[(seat, thing)] + self.fewest[move] + 1
                self.offer(other, thing, steps, ((seat, thing), move))


def origins_of(program, word, place):
    rules = hold_rules(program, word, place)
    origins = Origins(rules, nearest(steps_of(program)))
    for seat in rules.ends:
        origins.offer(seat, END, origins.near[seat[1]][0], ())
    # Whether anything is at a seat has no length, so it is settled ahead of all.
    for seat in least_things(rules):
        for letter, other in rules.wrapped.get(seat, []):
            origins.offer(other, (letter, seat), 1, ())
    origins.settle_all()
    return origins


# The entries are an end and then moves, each one's spots going on behind those of the one ahead.
def run_through(program, origins, entries):
    backward = []
    waiting = list(entries)
    while waiting:
        entry = waiting.pop()
        backward.append(entry[0][1])
        waiting.extend(origins.sources[entry])
    # The spot behind a pair line is come to from that line alone: any run to it has made the room.
    ahead = walk_to(origins.near, backward.pop())
    return spots_at(program, ahead + list(reversed(backward)))
