"""Manners put into programs as back lines, and taken out again [26]."""

from doneroom.programs import words_of


def put_in(program, manner):
    words = words_by_place(manner)
    parts = []
    for number, part in enumerate(program):
        lines = []
        for gap in range(len(part[1]) + 1):
            lines.extend([("back", word) for word in words.get((number, gap), [])])
            # Behind the last gap no line stands.
            lines.extend(part[1][gap:gap + 1])
        parts.append((part[0], tuple(lines)))
    return tuple(parts)


# A manner is sorted, so the words of one place rise.
def words_by_place(manner):
    words = {}
    for word, place in manner:
        words.setdefault(place, []).append(word)
    return words


def taken_out(program):
    made = words_of(program)
    parts = []
    pairs = {}
    for number, part in enumerate(program):
        lines = []
        for line in part[1]:
            if line[0] != "back":
                lines.append(line)
            elif line[1] in made:
                pairs[(line[1], (number, len(lines)))] = True
        parts.append((part[0], tuple(lines)))
    return (tuple(parts), sorted(pairs))
