"""Tables: bounds of how many rooms are in use, each borne by those at the spots ahead [29]."""

from doneroom.flows import place_of
from doneroom.lines import made_word
from doneroom.programs import words_of
from doneroom.puts import words_by_place
from doneroom.spots import spots
from doneroom.steps import steps_of


def shows_most(program, manner, number, table):
    numbers = {}
    for n, words, count in table:
        if (n, words) in numbers or not is_rising(words):
            return False
        numbers[(n, words)] = count
    every = tuple(words_of(program))
    if not all([(n, every) in numbers for n in range(len(spots(program)))]):
        return False
    if not all([numbers[key] <= number for key in numbers if key[1] == every]):
        return False
    return is_closed_table(steps_to(program, manner), numbers)


def is_rising(words):
    return list(words) == sorted(set(words))


def is_closed_table(ahead, numbers):
    for key in numbers:
        if numbers[key] < 0:
            return False
        for nearer, more in asked_of(ahead, key):
            if nearer not in numbers or numbers[key] < numbers[nearer] + more:
                return False
    return True


# From each spot to the steps to it: (the spot ahead, the words that the manner gives back there, the word under which
# its line makes a room or None).
def steps_to(program, manner):
    listed = spots(program)
    words = words_by_place(manner)
    ahead = {}
    for n, line, m, m_place in steps_of(program):
        given = words.get(place_of(listed[n]), [])
        ahead.setdefault(m, []).append((n, given, made_word(line)))
    return ahead


# What an entry with this (n, words) asks: each (spot ahead, the words left there), and how many rooms more there are.
def asked_of(ahead, key):
    asked = []
    for p, given, made in ahead.get(key[0], []):
        left = tuple([word for word in key[1] if word not in given])
        asked.append(((p, left), 1 if made in key[1] else 0))
    return asked
