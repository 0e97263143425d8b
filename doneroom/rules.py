"""Rules of what is at the seats of a reader [17, 19], the least reader that keeps them, and who keeps them.

There are four kinds of rules:
- end: the seat is an end;
- keep: whatever is at the seat is at the other one;
- wrap: if anything is at the seat, a move with the letter leads from the other one to it;
- unwrap: for each move with the letter from the seat, whatever is where it leads is at the other one.
"""

from doneroom.readers import END


class Rules:
    def __init__(self):
        self.ends = []
        self.kept = {}
        self.wrapped = {}
        self.unwrapped = {}

    def end(self, seat):
        self.ends.append(seat)

    def keep(self, seat, other):
        self.kept.setdefault(seat, []).append(other)

    def wrap(self, seat, letter, other):
        self.wrapped.setdefault(seat, []).append((letter, other))

    def unwrap(self, seat, letter, other):
        self.unwrapped.setdefault((seat, letter), []).append(other)


class Growth:
    def __init__(self, rules):
        self.rules = rules
        self.things = {}
        self.tied = {}
        self.waiting = []

    def put(self, seat, thing):
        there = self.things.setdefault(seat, {})
        if thing not in there:
            there[thing] = True
            self.waiting.append((seat, thing))

    # From now on whatever comes to the seat comes to the other one too.
    def tie(self, seat, other):
        others = self.tied.setdefault(seat, {})
        if other not in others:
            others[other] = True
            for thing in list(self.things.get(seat, {})):
                self.put(other, thing)

    def spread(self, seat, thing):
        for other in self.rules.kept.get(seat, []):
            self.put(other, thing)
        for other in self.tied.get(seat, {}):
            self.put(other, thing)
        for letter, other in self.rules.wrapped.get(seat, []):
            self.put(other, (letter, seat))
        if thing != END:
            for other in self.rules.unwrapped.get((seat, thing[0]), []):
                self.tie(thing[1], other)


# What is at the seats of the least reader: only what a rule asks is ever put anywhere.
def least_things(rules):
    growth = Growth(rules)
    for seat in rules.ends:
        growth.put(seat, END)
    while growth.waiting:
        entry = growth.waiting.pop()
        growth.spread(entry[0], entry[1])
    return growth.things


def keeps_rules(rules, things):
    if not all([END in things.get(seat, {}) for seat in rules.ends]):
        return False
    return all([keeps_rules_of(rules, things, seat) for seat in things])


# Where nothing is at a seat, no rule but an end asks anything of it.
def keeps_rules_of(rules, things, seat):
    for other in rules.kept.get(seat, []):
        if not is_within(things, seat, other):
            return False
    for letter, other in rules.wrapped.get(seat, []):
        if (letter, seat) not in things.get(other, {}):
            return False
    for thing in things[seat]:
        if thing != END:
            for other in rules.unwrapped.get((seat, thing[0]), []):
                if not is_within(things, thing[1], other):
                    return False
    return True


def is_within(things, seat, other):
    there = things.get(other, {})
    return all([thing in there for thing in things.get(seat, {})])
