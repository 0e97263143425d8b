"""Programs written as texts [8]."""

from doneroom.lines import gives


def show_program(program):
    rows = []
    for name, lines in program:
        rows.append(f"part {name}")
        rows.extend([show_line(line) for line in lines])
    return "\n".join(rows)


def show_line(line):
    box = gives(line)
    if box is None:
        return " ".join(line)
    kind = () if line[0] == "same" else (line[0],)
    return " ".join((box, "=") + kind + line[2:])
