"""What the tests share: small programs, programs at the bounds, and drawn ones."""

import itertools
import random

from doneroom.runs import is_run, run_by
from doneroom.spots import spots

KEPT = ("pair", "first", "second", "none", "tell", "back", "either", "or", "again", "end", "do", "part")

EITHER = ("either",)
OR = ("or",)
AGAIN = ("again",)
END = ("end",)

# Lines that many tests use: x and z are given rooms, y never holds one.
MAKE = ("pair", "x", "w", "y", "y")
OTHER = ("pair", "z", "v", "y", "y")
THIRD = ("pair", "z", "u", "y", "y")
TELL = ("tell", "x")
IDLE = ("none", "y")

# One line of each of the twelve kinds, the boxes and the word unlike.
EACH_KIND = (
    ("pair", "x", "w", "y", "z"),
    ("first", "x", "y"),
    ("second", "x", "y"),
    ("same", "x", "y"),
    ("none", "x"),
    ("tell", "y"),
    ("back", "w"),
    EITHER,
    OR,
    AGAIN,
    END,
    ("do", "p"),
)

# Things that are no name, no line and no program.
OTHER_THINGS = (None, True, False, 0, 1, -5, (), [], "", "x", (None,), [None], (True, 1), ("x",), ["x"], ((),), ([],))


def one(*lines):
    return (("main", tuple(lines)),)


def do(name):
    return ("do", name)


def back(word):
    return ("back", word)


def nested(depth, within=()):
    lines = tuple(within)
    for level in range(depth):
        lines = (AGAIN,) + lines + (END,) if level % 2 == 0 else (EITHER,) + lines + (OR, END)
    return lines


def plain(count):
    return (("tell", "x"),) * count


def backs(count, words=("w",)):
    return tuple(("back", words[k % len(words)]) for k in range(count))


# Programs that just keep a bound of [7], each beside one that passes it by one: (name, kept, passed).
def bound_cases():
    return line_bounds() + back_bounds() + block_bounds() + name_bounds() + way_bounds()


def parts(*bodies):
    return tuple((name, tuple(body)) for name, body in zip("abcdefgh", bodies))


def times(count, name):
    return (do(name),) * count


def line_bounds():
    return [
        ("parts", parts(*[()] * 5), parts(*[()] * 6)),
        ("lines", one(*plain(48)), one(*plain(49))),
        ("lines, backs among them", one(*plain(30) + backs(500) + plain(18)), one(*plain(31) + backs(500) + plain(18))),
        ("lines of blocks", one(*nested(2) * 9 + plain(3)), one(*nested(2) * 9 + plain(4))),
        ("lines, flat", parts(plain(47) + times(1, "b"), plain(1)), parts(plain(47) + times(1, "b"), plain(2))),
        ("lines done twice", parts(times(2, "b") + plain(2), plain(23)), parts(times(2, "b") + plain(3), plain(23))),
        (
            "lines done within done",
            parts(times(2, "b"), times(2, "c"), plain(12)),
            parts(times(2, "b") + plain(1), times(2, "c"), plain(12)),
        ),
        ("lines, own do lines too", parts(plain(47) + times(1, "b"), ()), parts(plain(48) + times(1, "b"), ())),
        ("lines done by none", parts((), plain(48)), parts((), plain(49))),
        (
            "lines done by none, do lines too",
            parts((), plain(28) + times(20, "c"), ()),
            parts((), plain(28) + times(21, "c"), ()),
        ),
    ]


def back_bounds():
    return [
        ("backs", one(*backs(500)), one(*backs(501))),
        ("backs beside lines", one(*plain(48) + backs(500)), one(*plain(48) + backs(501))),
        ("backs, flat", parts(backs(300) + times(1, "b"), backs(200)), parts(backs(300) + times(1, "b"), backs(201))),
        ("backs done twice", parts(times(2, "b"), backs(250)), parts(times(2, "b") + backs(1), backs(250))),
        ("backs beside a do", parts(backs(500) + times(1, "b"), ()), parts(backs(501) + times(1, "b"), ())),
        ("backs done by none", parts(backs(500), backs(500)), parts(backs(500), backs(501))),
    ]


def block_bounds():
    return [
        ("blocks", one(*nested(6)), one(*nested(7))),
        ("blocks beside others", one(*nested(6) + nested(6)), one(*nested(6) + nested(7))),
        ("blocks across do", parts(nested(3, times(1, "b")), nested(3)), parts(nested(3, times(1, "b")), nested(4))),
        (
            "blocks across do within do",
            parts(nested(2, times(1, "b")), nested(2, times(1, "c")), nested(2)),
            parts(nested(3, times(1, "b")), nested(2, times(1, "c")), nested(2)),
        ),
        (
            "blocks beside a do",
            parts(nested(6) + times(1, "b"), nested(6)),
            parts(nested(6) + nested(1, times(1, "b")), nested(6)),
        ),
        ("blocks round a do", parts(nested(6, times(1, "b")), plain(1)), parts(nested(7, times(1, "b")), plain(1))),
        ("blocks done by none", parts((), nested(6)), parts((), nested(7))),
    ]


def nones(boxes):
    return tuple(("none", box) for box in boxes)


def pairs(words):
    return tuple(("pair", "x", word, "x", "x") for word in words)


def name_bounds():
    three = (("pair", "a", "w", "b", "c"),)
    return [
        ("boxes", one(*nones("abcde")), one(*nones("abcdef"))),
        ("boxes of a pair", one(*three + nones("de")), one(*three + nones("def"))),
        (
            "boxes of each kind",
            one(("same", "a", "b"), ("first", "c", "d"), ("tell", "e"), ("second", "a", "e")),
            one(("same", "a", "b"), ("first", "c", "d"), ("tell", "e"), ("second", "a", "f")),
        ),
        ("boxes of several parts", parts(three, nones("cde")), parts(three, nones("def"))),
        ("words of pairs", one(*pairs("abcde")), one(*pairs("abcdef"))),
        ("words of backs", one(*backs(5, "abcde")), one(*backs(6, "abcdef"))),
        ("words of both", one(*pairs("abc") + backs(4, "bcde")), one(*pairs("abc") + backs(4, "cdef"))),
        ("words of several parts", parts(pairs("abc"), backs(3, "cde")), parts(pairs("abc"), backs(3, "def"))),
    ]


def way_bounds():
    return [
        ("ways", parts(times(23, "b"), ()), parts(times(24, "b"), ())),
        ("ways within ways", parts(times(1, "b"), times(22, "c"), ()), parts(times(1, "b"), times(23, "c"), ())),
        (
            "ways of unlike parts",
            parts(times(5, "b") + times(3, "c"), times(3, "c"), ()),
            parts(times(5, "b") + times(4, "c"), times(3, "c"), ()),
        ),
        (
            "ways in blocks",
            parts(nested(2, times(12, "b")) + times(11, "b"), ()),
            parts(nested(2, times(12, "b")) + times(12, "b"), ()),
        ),
    ]


# Things of the right kinds all through that are no program for one reason each.
def crooked_programs():
    return {
        "names told twice": (("a", ()), ("a", ())),
        "names told twice, apart": (("a", ()), ("b", ()), ("a", ())),
        "do of its own part": (("a", (do("a"),)), ("b", ())),
        "do of one ahead": (("a", (do("b"),)), ("b", (do("a"),))),
        "do of one ahead, the last": (("a", ()), ("b", ()), ("c", (do("b"),))),
        "do of none": (("a", (do("c"),)), ("b", ())),
        "do of none, in a part that none does": (("a", ()), ("b", (do("c"),))),
        "an end too many": one(END),
        "an end too many behind a block": one(AGAIN, END, END),
        "a block left open": one(AGAIN),
        "an either left open": one(EITHER, OR),
        "an either without or": one(EITHER, END),
        "an either with two": one(EITHER, OR, OR, END),
        "an or in an again": one(AGAIN, OR, END),
        "an or in no block": one(OR),
        "an or in a block within the either": one(EITHER, AGAIN, OR, END, END),
        "wrong blocks in the second part": (("a", (do("b"),)), ("b", (AGAIN,))),
        "wrong blocks in a part that none does": (("a", ()), ("b", (OR,))),
        "a block that two parts share": (("a", (AGAIN, do("b"))), ("b", (END,))),
    }


def drawn_body(rng, room, names, level):
    lines = []
    while room > 0 and rng.random() < 0.8:
        kind = rng.choice(("pair", "first", "second", "same", "none", "tell", "back", "either", "again", "do"))
        boxes = [rng.choice("xyz") for count in range(3)]
        if kind == "pair":
            lines.append(("pair", boxes[0], rng.choice("uvw"), boxes[1], boxes[2]))
        elif kind in ("first", "second", "same"):
            lines.append((kind, boxes[0], boxes[1]))
        elif kind in ("none", "tell"):
            lines.append((kind, boxes[0]))
        elif kind == "back":
            lines.append(("back", rng.choice("uvw")))
        elif kind == "do" and names:
            lines.append(("do", rng.choice(names)))
        elif kind == "either" and level < 2:
            branches = [drawn_body(rng, room // 2 - 1, names, level + 1) for count in range(2)]
            lines += [EITHER] + branches[0] + [OR] + branches[1] + [END]
        elif kind == "again" and level < 2:
            lines += [AGAIN] + drawn_body(rng, room // 2 - 1, names, level + 1) + [END]
        room -= 1
    return lines


# A program drawn by this number, within the bounds of [7]: the checks of the tests themselves see to that.
def drawn_program(number):
    rng = random.Random(number)
    while True:
        names = list("abcd")[: rng.randint(1, 4)]
        parts = []
        for at, name in enumerate(names):
            parts.append((name, tuple(drawn_body(rng, rng.randint(1, 8), names[at + 1:], 0))))
        program = tuple(parts)
        if within_bounds(program):
            return program


def spliced(program, part=0):
    lines = ()
    for line in program[part][1]:
        if line[0] == "do":
            lines += spliced(program, [name for name, body in program].index(line[1]))
        else:
            lines += (line,)
    return lines


def count_ways(program, part=0):
    named = [line[1] for line in program[part][1] if line[0] == "do"]
    return 1 + sum(count_ways(program, [name for name, body in program].index(name)) for name in named)


# Only of drawn programs, which are small, have rightly standing blocks and few names.
def within_bounds(program):
    if count_ways(program) > 24:
        return False
    bodies = [body for name, body in program] + [spliced(program)]
    if any(len([line for line in body if line[0] != "back"]) > 48 for body in bodies):
        return False
    return max(depth_of(body) for body in bodies) <= 6


def depth_of(lines):
    depths = [0]
    for line in lines:
        depths.append(depths[-1] + (line in (EITHER, AGAIN)) - (line == END))
    return max(depths)


def drawn_programs(count):
    return [drawn_program(number) for number in range(count)]


# The bits of a number as choices, the last bit first.
def drawn_choices(number, count):
    rng = random.Random(number)
    return [rng.randint(0, 1) for step in range(count)]


# What stands where, for each spot of the program, told anew from the words of [11]: a dict from spots to lists.
def all_edges(program):
    edges = {}
    add_edges(program, 0, (), None, edges)
    return edges


def add_edges(program, part, way, behind, edges):
    lines = program[part][1]
    partners = block_partners(lines)
    edges[(way, part, len(lines), False)] = [] if behind is None else [behind]
    for k, line in enumerate(lines):
        here = (way, part, k, False)
        edges[here] = [(way, part, k + 1, False)]
        block = partners.get(k)
        if line == EITHER:
            edges[here].append((way, part, block[1] + 1, False))
        elif line == OR:
            edges[here] = [(way, part, block[2] + 1, False)]
        elif line == AGAIN:
            edges[here] = [(way, part, k, True)]
            edges[(way, part, k, True)] = [(way, part, block[1] + 1, False), (way, part, k + 1, False)]
        elif line == END and len(block) == 2:
            edges[here] = [(way, part, block[0], True)]
        elif line[0] == "do":
            named = [name for name, body in program].index(line[1])
            longer = way + ((part, k),)
            edges[here] = [(longer, named, 0, False)]
            add_edges(program, named, longer, (way, part, k + 1, False), edges)


# For each line of a block the numbers of all its lines: (either, or, end) or (again, end).
def block_partners(lines):
    partners = {}
    opened = []
    for k, line in enumerate(lines):
        if line in (EITHER, AGAIN):
            opened.append([])
        if line in (EITHER, OR, AGAIN, END):
            opened[-1].append(k)
            partners[k] = opened[-1]
        if line == END:
            opened.pop()
    return partners


# Programs within the bounds: drawn ones, and those that just keep them.
def good_programs(count=60):
    return drawn_programs(count) + [kept for why, kept, passed in bound_cases()]


def run_of(program, choices=()):
    return run_by(program, list(choices))[0]


def without_backs(program):
    return tuple((name, tuple(line for line in body if line[0] != "back")) for name, body in program)


# Drawn programs without back lines in which something is made.
def making_programs(count):
    drawn = []
    number = 0
    while len(drawn) < count:
        program = without_backs(drawn_program(number))
        if any(line[0] == "pair" for line in spliced(program)):
            drawn.append(program)
        number += 1
    return drawn


def named_line(program, spot):
    lines = program[spot[1]][1]
    return ("at no line",) if spot[3] or spot[2] == len(lines) else lines[spot[2]]


def named_boxes(program):
    at = {"pair": (1, 3, 4), "first": (1, 2), "second": (1, 2), "same": (1, 2), "none": (1,), "tell": (1,)}
    return sorted({line[k] for name, body in program for line in body for k in at.get(line[0], ())})


def named_words(program):
    return sorted({line[2] for name, body in program for line in body if line[0] == "pair"})


# A room by itself, to tell rooms apart without numbers.
class Room:
    def __init__(self, word, first, second, step):
        self.word = word
        self.inner = {1: first, 2: second}
        self.step = step


# A plain run told anew from the words of [5] and [14]: (rooms, reads, words told, boxes), with Rooms for numbers.
def plain_run(program, run):
    boxes = dict.fromkeys(named_boxes(program))
    rooms, reads, told = [], [], []
    for step in range(len(run) - 1):
        line = named_line(program, run[step])
        kind = line[0]
        new = None
        if kind in ("first", "second", "tell"):
            room = boxes[line[-1]]
            if room is not None:
                reads.append((step, room))
                new = room.inner[2 if kind == "second" else 1]
            if kind == "tell":
                told.append("-" if room is None else room.word)
        if kind == "same":
            new = boxes[line[2]]
        if kind == "pair":
            new = Room(line[2], boxes[line[3]], boxes[line[4]], step + 1)
            rooms.append(new)
        if kind in ("pair", "first", "second", "same", "none"):
            boxes[line[1]] = new
    return (rooms, reads, told, boxes)


def all_paths(most):
    return [list(path) for size in range(most + 1) for path in itertools.product((1, 2), repeat=size)]


def lead(room, path):
    for letter in path:
        room = None if room is None else room.inner[letter]
    return room


# For each spot n, its line and each next spot m: (n, line, the box to which it gives something new, m, the spot m is).
def all_steps(program):
    listed = spots(program)
    edges = all_edges(program)
    for n, spot in enumerate(listed):
        line = named_line(program, spot)
        given = line[1] if line[0] in ("pair", "first", "second", "same", "none") else None
        for later in edges[spot]:
            yield n, line, given, listed.index(later), later


# The entries that the rules (a) to (e) of [17] ask, told anew word by word; ends are (seat,), moves (seat, letter, seat).
def asked_by_holds(program, word, place, entries):
    here = by_seat(entries)
    asked = set()
    for n, line, given, m, later in all_steps(program):
        comes = place is not None and later[3] is False and later[1:3] == place
        for late in (0, 1):
            after = 1 if late == 1 or comes else 0
            for box in named_boxes(program):
                if box != given:
                    asked |= moved(here, (late, n, box), (after, m, box))
            if line[0] == "same":
                asked |= moved(here, (late, n, line[2]), (after, m, line[1]))
            if line[0] in ("first", "second"):
                for thing in here.get((late, n, line[2]), ()):
                    if thing != () and thing[0] == (1 if line[0] == "first" else 2):
                        asked |= moved(here, thing[1], (after, m, line[1]))
            if line[0] == "pair":
                for letter in (1, 2):
                    seat = (late, n, line[2 + letter])
                    if here.get(seat):
                        asked.add(((after, m, line[1]), letter, seat))
            if line[0] == "pair" and line[2] == word:
                asked.add(((1 if comes else 0, m, line[1]),))
    return asked


# What is at each seat: () for an end, (letter, seat) for a move.
def by_seat(entries):
    here = {}
    for entry in entries:
        here.setdefault(entry[0], set()).add(entry[1:])
    return here


def moved(here, seat, other):
    return {(other,) + thing for thing in here.get(seat, ())}


def entries_of(reader):
    return {(seat,) for seat in reader[0]} | set(reader[1])


# Whether both lists are sorted, each entry once, and all of the kinds that [16] tells.
def is_well_formed(reader):
    ends, moves = reader
    seats = ends + [move[0] for move in moves] + [move[2] for move in moves]
    kinds = {(type(seat),) + tuple(type(thing) for thing in seat) for seat in seats}
    kinds |= {(type(move), len(move), type(move[1])) for move in moves}
    lists = [type(reader), type(ends), type(moves)] == [tuple, list, list]
    return lists and kinds <= {(tuple, int, int, str), (tuple, 3, int)} and reader == reader_with(entries_of(reader))


def reader_with(entries):
    return (sorted(entry[0] for entry in entries if len(entry) == 1), sorted(e for e in entries if len(e) == 3))


# The least set of entries that has all that is asked by itself.
def least_entries(asked_by):
    entries = set()
    more = asked_by(entries)
    while not more <= entries:
        entries |= more
        more = asked_by(entries)
    return entries


# Straight lines in the leaves of a tree of eithers within an again: as many ways through as there are leaves.
def leafy_program(number, leaves, boxes="abcde", words="uvw"):
    rng = random.Random(number)
    bodies = [[] for leaf in range(leaves)]
    for at in range(48 - 2 - 3 * (leaves - 1)):
        kind = rng.choice(("pair", "pair", "pair", "first", "second", "same", "same"))
        named = [rng.choice(boxes) for count in range(3)]
        line = ("pair", named[0], rng.choice(words), named[1], named[2]) if kind == "pair" else (kind,) + tuple(named[:2])
        bodies[at % leaves].append(line)
    return one(AGAIN, *either_tree(bodies), END)


def either_tree(bodies):
    if len(bodies) == 1:
        return bodies[0]
    half = len(bodies) // 2
    return [EITHER] + either_tree(bodies[:half]) + [OR] + either_tree(bodies[half:]) + [END]


# At the bounds of [7] without back lines: 48 lines when flat, five boxes, 24 ways, six blocks within one another.
def widest_program():
    step = (("pair", "a", "w", "a", "b"),)
    ahead = (("pair", "b", "u", "c", "d"), ("pair", "d", "v", "b", "c"), ("second", "e", "a"), ("same", "c", "e"))
    behind = (("first", "a", "e"), ("tell", "c"), ("second", "e", "c"), ("tell", "e"))
    main = (AGAIN, EITHER, AGAIN, do("mid")) + ahead + (END, OR, ("first", "c", "a"), END, END) + behind
    return (
        ("main", main + (("tell", "a"),)),
        ("mid", nested(3, times(11, "step") + (("same", "b", "c"), ("second", "a", "d"))) + times(11, "step")),
        ("lone", (("pair", "e", "lone", "d", "e"),)),
        ("step", step),
    )


# Again within again six times over, pairs ahead of and behind each.
def deepest_program():
    lines = [("first", "e", "a"), ("tell", "e")]
    for level in range(6):
        box, other = "abcde"[level % 5], "abcde"[(level + 1) % 5]
        ahead = [("pair", box, "uvw"[level % 3], other, box), ("second", other, box)]
        lines = [AGAIN] + ahead + lines + [("same", other, box), END]
    return one(*lines, *[("pair", "a", "u", "b", "a")] * 15, ("tell", "a"))


# Small programs of few boxes in which much is made, taken apart and read, with choices all through.
def busy_program(number):
    rng = random.Random(number)
    boxes = "xyz"[: rng.randint(1, 3)]
    names = ["p"] if rng.random() < 0.5 else []
    parts = [("main", tuple(busy_body(rng, rng.randint(3, 8), boxes, names, 0)))]
    if names:
        parts.append(("p", tuple(busy_body(rng, rng.randint(1, 4), boxes, [], 0))))
    return tuple(parts)


def busy_body(rng, size, boxes, names, level):
    lines = []
    while len(lines) < size:
        kind = rng.choice(("pair", "pair", "pair", "first", "second", "same", "tell", "none", "again", "either", "do"))
        named = [rng.choice(boxes) for count in range(3)]
        if kind == "pair":
            lines.append(("pair", named[0], rng.choice("uv"), named[1], named[2]))
        elif kind in ("first", "second", "same"):
            lines.append((kind, named[0], named[1]))
        elif kind in ("tell", "none"):
            lines.append((kind, named[0]))
        elif kind == "do" and names:
            lines.append(do(rng.choice(names)))
        elif kind == "again" and level < 2:
            lines += [AGAIN] + busy_body(rng, rng.randint(1, 3), boxes, names, level + 1) + [END]
        elif kind == "either" and level < 2:
            branches = [busy_body(rng, rng.randint(0, 2), boxes, names, level + 1) for count in range(2)]
            lines += [EITHER] + branches[0] + [OR] + branches[1] + [END]
    return lines


def busy_programs(count):
    drawn = []
    number = 0
    while len(drawn) < count:
        program = busy_program(number)
        if any(line[0] == "pair" for line in spliced(program)):
            drawn.append(program)
        number += 1
    return drawn


# A search through all runs, layer by layer, that tells how many spots the shortest run has by which, as [21] tells, the
# room of the word is read behind the place: None where the search ends without one, "cut" where it grows too great.
# Rooms are nodes (of the word: 0 no, 1 made, 2 made and the place come to since; first; second), alike ones one.
class Search:
    def __init__(self, program, word, place):
        self.program = program
        self.word = word
        self.place = place
        self.boxes = named_boxes(program)
        self.nodes = []
        self.known = {}
        self.later = {None: None}

    def node(self, label, first, second):
        key = (label, first, second)
        if key not in self.known:
            self.known[key] = len(self.nodes)
            self.nodes.append(key)
        return self.known[key]

    def made_late(self, node):
        if node not in self.later:
            label, first, second = self.nodes[node]
            self.later[node] = self.node(2 if label else 0, self.made_late(first), self.made_late(second))
        return self.later[node]

    # Tells (whether a late room of the word is read, what the boxes hold behind the line).
    def step(self, spot, later, held):
        line = named_line(self.program, spot)
        kind = line[0]
        boxes = dict(zip(self.boxes, held))
        read = boxes[line[-1]] if kind in ("first", "second", "tell") else None
        new = None
        if kind in ("first", "second") and read is not None:
            new = self.nodes[read][2 if kind == "second" else 1]
        elif kind == "same":
            new = boxes[line[2]]
        elif kind == "pair":
            new = self.node(1 if line[2] == self.word else 0, boxes[line[3]], boxes[line[4]])
        if kind in ("pair", "first", "second", "same", "none"):
            boxes[line[1]] = new
        if later[3] is False and later[1:3] == self.place:
            boxes = {box: self.made_late(node) for box, node in boxes.items()}
        return (read is not None and self.nodes[read][0] == 2, tuple(boxes[box] for box in self.boxes))

    def shortest(self, most_spots, most_states):
        edges = all_edges(self.program)
        layer = {(((), 0, 0, False), (None,) * len(self.boxes))}
        seen = set(layer)
        for size in range(2, most_spots + 1):
            further = set()
            for spot, held in layer:
                for later in edges[spot]:
                    read, after = self.step(spot, later, held)
                    if read:
                        return size
                    further.add((later, after))
            layer = further - seen
            seen |= layer
            if not layer:
                return None
            if len(seen) > most_states:
                return "cut"
        return "cut"


# 1 where the run came to the place at the spot behind the room's making or later.
def late_of(run, room, place):
    return 1 if any(spot[3] is False and spot[1:3] == place for spot in run[room.step:]) else 0


def drawn_seat(rng, program):
    return (rng.randint(0, 1), rng.randrange(len(spots(program))), rng.choice(named_boxes(program)))


def drawn_entry(rng, program):
    seat = drawn_seat(rng, program)
    return (seat,) if rng.random() < 0.5 else (seat, rng.randint(1, 2), drawn_seat(rng, program))


# The entries that the rules (a) to (e) of [19] ask, told anew word by word.
def asked_by_wants(program, entries):
    here = by_seat(entries)
    asked = set()
    for n, line, given, m, later in all_steps(program):
        for box in named_boxes(program):
            if box != given:
                asked |= moved(here, (0, m, box), (0, n, box))
        if line[0] == "same":
            asked |= moved(here, (0, m, line[1]), (0, n, line[2]))
        if line[0] in ("first", "second"):
            asked.add(((0, n, line[2]),))
            if here.get((0, m, line[1])):
                asked.add(((0, n, line[2]), 1 if line[0] == "first" else 2, (0, m, line[1])))
        if line[0] == "tell":
            asked.add(((0, n, line[1]),))
        if line[0] == "pair":
            for thing in here.get((0, m, line[1]), ()):
                if thing != ():
                    asked |= moved(here, thing[1], (0, n, line[2 + thing[0]]))
    return asked


# What comes of a box and a path by one line: a list of (box, path) behind it.
def followed(line, box, path):
    kind = line[0]
    given = line[1] if kind in ("pair", "first", "second", "same", "none") else None
    behind = [(box, path)] if box != given else []
    if kind == "same" and line[2] == box:
        behind.append((line[1], path))
    if kind in ("first", "second") and line[2] == box and path[:1] == ((1,) if kind == "first" else (2,)):
        behind.append((line[1], path[1:]))
    if kind == "pair":
        behind += [(line[1], (letter,) + path) for letter in (1, 2) if line[2 + letter] == box]
    return behind


# Whether the line ahead of the run's last spot reads a room of the word, the place come to since that was made.
def reads_at_last(program, word, place, run):
    rooms, reads, told, boxes = plain_run(program, run)
    last = len(run) - 2
    return any(
        step == last and room.word == word and late_of(run[:-1], room, place) == 1 for step, room in reads
    )


# No seat (1, n, y) is an end where the line of n reads y.
def has_no_late_read(program, reader):
    for late, n, box in reader[0]:
        line = named_line(program, spots(program)[n])
        if late == 1 and line[0] in ("first", "second", "tell") and line[-1] == box:
            return False
    return True


# The rooms of a run by a manner, told anew from the words of [22]: (the word, the step of the making, the step at which
# the room is given back or None), in the order of their making.
def rooms_by(program, manner, run):
    rooms = []
    for room in plain_run(program, run)[0]:
        given = [step for step in range(room.step, len(run)) if gives_at(manner, room.word, run[step])]
        rooms.append((room.word, room.step, given[0] if given else None))
    return rooms


def gives_at(manner, word, spot):
    return spot[3] is False and (word, spot[1:3]) in manner


# All runs with at most so many spots.
def all_runs(program, most_spots):
    edges = all_edges(program)
    runs = [[((), 0, 0, False)]]
    for run in runs:
        if len(run) < most_spots:
            runs += [run + [later] for later in edges[run[-1]]]
    return runs


# All that any run can come to: pairs (spot, what is kept there ahead of the givings), with after(kept, spot, line)
# telling what is kept one step behind it.
def all_states(program, begin, after):
    edges = all_edges(program)
    waiting = [(((), 0, 0, False), begin)]
    seen = set(waiting)
    while waiting:
        spot, kept = waiting.pop()
        further = after(kept, spot, named_line(program, spot))
        for later in edges[spot]:
            if (later, further) not in seen:
                seen.add((later, further))
                waiting.append((later, further))
    return seen


# The pairs (word, spot) such that on some run a room of the word is in use at the spot ahead of the givings.
def used_at(program, manner):
    def after(kept, spot, line):
        left = {word for word in kept if not gives_at(manner, word, spot)}
        return frozenset(left | ({line[2]} if line[0] == "pair" else set()))

    return {(word, spot) for spot, kept in all_states(program, frozenset(), after) for word in kept}


def drawn_manner(rng, program, share=0.3):
    pairs = [(word, place) for word in named_words(program) for place in all_places(program)]
    return sorted(pair for pair in pairs if rng.random() < share)


def all_places(program):
    return [(part, gap) for part, (name, body) in enumerate(program) for gap in range(len(body) + 1)]


# Programs without back lines that reach the bounds of [7] in one way or another.
def bound_programs():
    fives = one(AGAIN, *either_tree([five_words(at) for at in range(8)]), END)
    lone = tuple((name, (("same", "a", "b"),) * 48) for name in "pqrs")
    mixed = [("pair", "x", "u", "y", "z"), ("pair", "y", "v", "x", "y"), ("second", "z", "y"), ("tell", "z")] * 12
    chain = [("pair", "x", "w", "x", "y")] * 24 + [("first", "x", "x")] * 24
    drawn = [leafy_program(number, 2 + number, words="klmno") for number in range(0, 10, 2)]
    return [widest_program(), deepest_program(), fives, fives + lone, one(*mixed), one(*chain)] + drawn


def five_words(at):
    boxes = "abcde"[at % 5:] + "abcde"[:at % 5]
    return [("pair", boxes[0], "klmno"[at % 5], boxes[1], boxes[2]), ("same", boxes[3], boxes[0])] + [
        ("pair", boxes[4], "klmno"[(at + 2) % 5], boxes[0], boxes[3])
    ]


# The words whose rooms in use have no greatest number, told anew: where more are in use at once than there are spots
# that make them, one of these was come to twice in between, and so can be again and again.
def grown_words(program, manner):
    made = [named_line(program, spot) for spot in all_edges(program)]
    grown = []
    for word in named_words(program):
        too_many = 1 + len([line for line in made if line[0] == "pair" and line[2] == word])

        def after(kept, spot, line):
            left = 0 if gives_at(manner, word, spot) else kept
            return min(too_many, left + (line[0] == "pair" and line[2] == word))

        if any(kept == too_many for spot, kept in all_states(program, 0, after)):
            grown.append(word)
    return grown


# The greatest number of rooms in use ahead of the givings, by all that runs can come to; only where nothing grows.
def most_anew(program, manner):
    words = named_words(program)

    def after(kept, spot, line):
        left = [0 if gives_at(manner, word, spot) else many for word, many in zip(words, kept)]
        return tuple(many + (line[0] == "pair" and line[2] == word) for word, many in zip(words, left))

    return max(sum(kept) for spot, kept in all_states(program, (0,) * len(words), after))


# A table as [29] tells it, its words told anew.
def is_table_for(program, manner, table):
    keys = [(n, words) for n, words, number in table]
    if len(set(keys)) < len(keys) or any(number < 0 for n, words, number in table):
        return False
    if any(words[k] >= words[k + 1] for n, words, number in table for k in range(len(words) - 1)):
        return False
    listed = spots(program)
    if not {(n, tuple(named_words(program))) for n in range(len(listed))} <= set(keys):
        return False
    numbers = dict(zip(keys, [number for n, words, number in table]))
    for p, line, given, n, later in all_steps(program):
        for key in [key for key in keys if key[0] == n]:
            left = tuple(word for word in key[1] if not gives_at(manner, word, listed[p]))
            more = 1 if line[0] == "pair" and line[2] in key[1] else 0
            if (p, left) not in numbers or numbers[key] < numbers[(p, left)] + more:
                return False
    return True


def making_numbers(program):
    return [n for n, spot in enumerate(spots(program)) if named_line(program, spot)[0] == "pair"]


# The pairs of making spots whose rooms are in use at once, by all that runs can come to.
def clashes_anew(program, manner):
    listed = spots(program)

    def after(kept, spot, line):
        left = {n for n in kept if not gives_at(manner, named_line(program, listed[n])[2], spot)}
        return frozenset(left | ({listed.index(spot)} if line[0] == "pair" else set()))

    states = all_states(program, frozenset(), after)
    return sorted({(n, m) for spot, kept in states for n in kept for m in kept if n < m})


# What [28] tells of rooms that grow, the word the least one.
def check_growth(case, program, manner, told):
    case.assertEqual((type(told), len(told), told[0]), (tuple, 4, "grows"))
    word, run, round_spots = told[1:]
    case.assertEqual((type(word), type(run), type(round_spots)), (str, list, list))
    case.assertIs(is_run(program, run), True)
    case.assertGreater(len(round_spots), 1)
    case.assertEqual((round_spots[0], round_spots[-1]), (run[-1], run[-1]))
    edges = all_edges(program)
    for spot, later in zip(round_spots, round_spots[1:]):
        case.assertIn(later, edges[spot])
    made = [named_line(program, spot) for spot in round_spots[:-1]]
    case.assertTrue(any(line[0] == "pair" and line[2] == word for line in made))
    case.assertFalse(any(gives_at(manner, word, spot) for spot in round_spots))
    case.assertEqual(word, min(grown_words(program, manner)))
