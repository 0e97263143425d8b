"""Programs run on a shelf of so many rooms, their back lines too [32]."""

from doneroom.flows import line_of
from doneroom.lines import gives
from doneroom.plains import given_by, room_read, word_told
from doneroom.programs import boxes_of
from doneroom.runs import run_by


# Rooms are numbered as they are made; taken has the shelf's number of each.
class Shelf:
    def __init__(self, program, size):
        self.size = size
        self.held = dict([(box, None) for box in boxes_of(program)])
        self.rooms = []
        self.taken = []
        self.words = []
        self.in_use = {}
        self.gone = {}
        # The numbers that were ever taken lie below the fresh one; those of them that are free, the least one last.
        self.fresh = 0
        self.free_again = []

    # "gone" or "full" where the line can't be gone through, else None.
    def bar(self, line):
        read = room_read(line, self.held)
        if read is not None and read in self.gone:
            return "gone"
        if line[0] == "pair" and not self.free_again and self.fresh >= self.size:
            return "full"
        return None

    def pass_line(self, line):
        if line[0] == "tell":
            self.words.append(word_told(self.rooms, self.held[line[1]]))
        elif line[0] == "pair":
            self.make_room(line)
        elif line[0] == "back":
            self.give_back(line[1])
        if gives(line) is not None:
            self.held[gives(line)] = given_by(line, self.rooms, self.held)

    def make_room(self, line):
        self.in_use.setdefault(line[2], []).append(len(self.rooms))
        self.rooms.append((line[2], self.held[line[3]], self.held[line[4]]))
        if self.free_again:
            self.taken.append(self.free_again.pop())
        else:
            self.taken.append(self.fresh)
            self.fresh += 1

    def give_back(self, word):
        for room in self.in_use.get(word, []):
            self.gone[room] = True
            self.free_again.append(self.taken[room])
        self.in_use[word] = []
        self.free_again = sorted(self.free_again, reverse=True)


def on_shelf(program, choices, size):
    run = run_by(program, choices)[0]
    shelf = Shelf(program, size)
    # The line of the last spot isn't done: the run stands ahead of it.
    for step in range(len(run) - 1):
        line = line_of(program, run[step])
        if line is not None:
            why = shelf.bar(line)
            if why is not None:
                return (why, step, shelf.words, shelf.taken)
            shelf.pass_line(line)
    return ("told", len(run) - 1, shelf.words, shelf.taken)
