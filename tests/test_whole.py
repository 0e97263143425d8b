import random
import unittest

from doneroom.clashes import clashes
from doneroom.counts import counted
from doneroom.desk import Desk
from doneroom.earlier import no_later
from doneroom.errors import NoName
from doneroom.fixing import fixed, shows_few, too_few
from doneroom.flats import flat
from doneroom.holds import holds
from doneroom.judges import judged
from doneroom.manners import all_done, first_given, lean
from doneroom.most import most
from doneroom.needs import need
from doneroom.papers import shows_done
from doneroom.plains import traced
from doneroom.programs import is_program, places_of, words_of
from doneroom.puts import put_in, taken_out
from doneroom.reads import read_program
from doneroom.runs import choices_of, is_run
from doneroom.shelves import on_shelf
from doneroom.shows import show_program
from doneroom.spots import spots
from doneroom.tables import shows_most
from doneroom.wants import wants
from helper import AGAIN, END, busy_programs, do, drawn_choices, drawn_manner, making_numbers, making_programs, plain_run
from helper import reads_at_last, run_of

CONS = ("pair", "list", "cell", "item", "list")

# Lists built up, read through and taken apart, by parts that are done in several places.
LISTS = (
    ("main", (do("fill"), do("walk"), AGAIN, do("fill"), do("walk"), END, ("none", "list"))),
    ("fill", (("none", "list"), AGAIN, ("pair", "item", "leaf", "nil", "nil"), CONS, END)),
    ("walk", (AGAIN, ("first", "item", "list"), ("tell", "item"), ("second", "list", "list"), END)),
)
ONCE = (
    ("main", (AGAIN, do("make"), ("tell", "item"), ("first", "item", "item"), ("tell", "item"), END)),
    ("make", (("pair", "item", "leaf", "nil", "nil"), ("pair", "item", "cell", "item", "nil"))),
)


# The names of boxes, words and parts are unlike in these programs, so each text is known by itself.
def renamed(thing, names):
    if isinstance(thing, str):
        return names.get(thing, thing)
    if isinstance(thing, (tuple, list)):
        return type(thing)(renamed(part, names) for part in thing)
    return thing


# Each kind of names rises as before.
RISING = {"x": "bear", "y": "cow", "z": "dog", "u": "ann", "v": "bob", "w": "cid", "main": "zoo", "p": "yard"}
RISING.update({"a": "ka", "b": "kb", "c": "kc", "d": "kd"})
# The other way round, and names of one kind for those of another one.
TURNED = {"x": "w", "y": "v", "z": "u", "u": "z", "v": "y", "w": "x", "main": "x", "p": "w"}
TURNED.update({"a": "y", "b": "x", "c": "w", "d": "v"})


# All that is told of a program, a manner and a row of choices.
def all_answers(program, manner, choices):
    run = run_of(program, choices)
    given = put_in(program, manner)
    told = {
        "spots": spots(program), "flat": flat(program), "traced": traced(program, run), "wants": wants(program),
        "all_done": all_done(program), "lean": lean(program), "judged": judged(program, manner),
        "earlier": no_later(program, manner, lean(program)), "put_in": given, "taken_out": taken_out(given),
        "counted": counted(program, manner, run), "most": most(program, manner), "clashes": clashes(program, manner),
        "shelf": on_shelf(given, choices, 3),
    }
    for word, place in manner[::3]:
        told["need", word, place] = need(program, word, place)
        told["given", word, place] = first_given(program, manner, word, place)
        told["holds", word, place] = holds(program, word, place)
    if len(making_numbers(program)) <= 8:
        told["fixed"] = fixed(program, manner)
        told["tree"] = too_few(program, manner, 1)
    return told


class RenamedTests(unittest.TestCase):
    def test_nothing_but_the_names_changes(self):
        for number, program in enumerate(busy_programs(50) + making_programs(25)):
            manner = drawn_manner(random.Random(number), program)
            choices = drawn_choices(number, 12)
            other = renamed(program, RISING)
            self.assertIs(is_program(other), True)
            told = all_answers(other, renamed(manner, RISING), choices)
            for key, answer in all_answers(program, manner, choices).items():
                self.assertEqual(told[renamed(key, RISING)], renamed(answer, RISING), (program, key))

    # Where names rise otherwise, what is sorted by them stands in another order.
    def test_names_in_another_order(self):
        for number, program in enumerate(busy_programs(50) + making_programs(25)):
            manner = drawn_manner(random.Random(number), program)
            choices = drawn_choices(number, 12)
            other, other_manner = renamed(program, TURNED), sorted(renamed_manner(manner))
            self.assertIs(is_program(other), True)
            for function in (all_done, lean):
                self.assertEqual(function(other), sorted(renamed_manner(function(program))))
            run, other_run = run_of(program, choices), run_of(other, choices)
            self.assertEqual(run, other_run)
            self.assertEqual(counted(other, other_manner, run), counted(program, manner, run))
            self.assertEqual(clashes(other, other_manner), clashes(program, manner))
            self.assertEqual(no_later(other, other_manner, lean(other))[0], no_later(program, manner, lean(program))[0])
            rooms, other_rooms = most(program, manner), most(other, other_manner)
            self.assertEqual(rooms[0], other_rooms[0])
            if rooms[0] == "most":
                self.assertEqual(rooms[1], other_rooms[1])
            self.assertEqual(judged(program, manner)[0], judged(other, other_manner)[0])
            shelf, other_shelf = on_shelf(program, choices, 2), on_shelf(other, choices, 2)
            self.assertEqual(other_shelf, shelf[:2] + (renamed(shelf[2], TURNED), shelf[3]))
            for word, place in manner[::4]:
                told, other_told = need(program, word, place), need(other, TURNED[word], place)
                self.assertEqual(told[0], other_told[0])
                if told[0] == "read":
                    self.assertEqual(len(told[1]), len(other_told[1]))

    def test_at_a_desk(self):
        for number, program in enumerate(busy_programs(40)):
            desk, other = Desk(show_program(program)), Desk(show_program(renamed(program, RISING)))
            for row in ("show", "lean", "most", "judge", "give", "show", "judge", "most", "flat", "give", "show", "lean"):
                self.assertEqual(other.say(row), in_words(desk.say(row)))
            for row in ("run 2 0110101", "run 1 -", "run 0 11111"):
                self.assertEqual(other.say(row), in_words(desk.say(row)))
            with self.assertRaises(NoName):
                desk.say("need u zoo 0")


# Words change, places stay.
def renamed_manner(manner):
    return [(TURNED[word], place) for word, place in manner]


# The names in a desk's answer changed, whatever stands between them.
def in_words(text):
    rows = []
    for row in text.split("\n"):
        words = [(word.rstrip(","), "," * word.endswith(",")) for word in row.split(" ")]
        rows.append(" ".join(RISING.get(word, word) + comma for word, comma in words))
    return "\n".join(rows)


# All that [3] promises of a program.
class PromiseTests(unittest.TestCase):
    def check(self, program, number):
        manner = lean(program)
        for word in words_of(program):
            for place in places_of(program)[number % 3::3]:
                self.check_told(program, word, place)
        rng = random.Random(number)
        other = [pair for pair in all_done(program) if rng.random() < 0.5]
        self.assertEqual(no_later(program, manner, other), ("yes",))
        self.assertEqual(judged(program, manner)[0], "safe")
        rooms = most(program, manner)
        if rooms[0] == "most":
            self.check_most(program, manner, rooms, number)
            self.check_fixed(program, manner, rooms[1])
        return rooms[0]

    def check_told(self, program, word, place):
        told = need(program, word, place)
        if told[0] == "read":
            self.assertIs(is_run(program, told[1]), True)
            self.assertTrue(reads_at_last(program, word, place, told[1]))
            self.assertNotIn((word, place), all_done(program))
        else:
            self.assertIs(shows_done(program, word, place, told[1]), True)
            self.assertIn((word, place), all_done(program))

    def check_most(self, program, manner, rooms, number):
        self.assertEqual(counted(program, manner, rooms[2])[-1][0], rooms[1])
        self.assertIs(shows_most(program, manner, rooms[1], rooms[3]), True)
        given = put_in(program, manner)
        for draw in range(4):
            choices = drawn_choices(4 * number + draw, 12)
            told = on_shelf(given, choices, rooms[1])
            self.assertEqual((told[0], told[2]), ("told", plain_run(program, run_of(program, choices))[2]))
        if rooms[1] > 0:
            self.assertEqual(on_shelf(given, choices_of(program, rooms[2]), rooms[1] - 1)[0], "full")

    # At least as many fixed rooms as are ever in use at once.
    def check_fixed(self, program, manner, number):
        if len(making_numbers(program)) <= 8:
            told = fixed(program, manner)
            self.assertGreaterEqual(told[1], number)
            self.assertIsNone(too_few(program, manner, told[1]))
            if told[1] > 0:
                self.assertIs(shows_few(program, manner, told[1] - 1, too_few(program, manner, told[1] - 1)), True)

    def test_drawn_programs(self):
        seen = [self.check(program, number) for number, program in enumerate(busy_programs(60) + making_programs(20))]
        self.assertGreater(min(seen.count("most"), seen.count("grows")), 5)

    def test_lists(self):
        self.assertIs(is_program(LISTS), True)
        self.assertEqual(self.check(LISTS, 0), "grows")
        self.assertEqual(self.check(flat(LISTS), 0), "grows")
        # A list as long as one likes: leaves and cells are both in use until it was walked through.
        self.assertEqual(lean(LISTS), [("cell", (2, 5)), ("leaf", (2, 5))])
        self.assertEqual(most(LISTS, lean(LISTS))[:2], ("grows", "cell"))

    def test_rooms_made_and_read_round_by_round(self):
        self.assertEqual(self.check(ONCE, 0), "most")
        self.assertEqual(lean(ONCE), [("cell", (0, 4)), ("leaf", (0, 5))])
        self.assertEqual(most(ONCE, lean(ONCE))[1], 2)
        self.assertEqual(fixed(ONCE, lean(ONCE))[1], 2)
        text = show_program(put_in(ONCE, lean(ONCE)))
        self.assertEqual(Desk(text).say("run 2 110"), "told cell leaf cell leaf")
        self.assertEqual(read_program(text), put_in(ONCE, lean(ONCE)))


if __name__ == "__main__":
    unittest.main()
