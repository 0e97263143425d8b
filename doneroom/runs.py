"""Runs, and the choices by which they go on [12]."""

from doneroom.flows import first_spot, next_spots


def is_run(program, spots):
    if not spots or spots[0] != first_spot():
        return False
    for k in range(1, len(spots)):
        if spots[k] not in next_spots(program, spots[k - 1]):
            return False
    return True


def run_by(program, choices):
    run = [first_spot()]
    used = 0
    later = next_spots(program, run[-1])
    while len(later) == 1 or (len(later) == 2 and used < len(choices)):
        if len(later) == 2:
            run.append(later[choices[used]])
            used += 1
        else:
            run.append(later[0])
        later = next_spots(program, run[-1])
    return (run, used)


def choices_of(program, run):
    choices = []
    for k in range(1, len(run)):
        later = next_spots(program, run[k - 1])
        if len(later) == 2:
            choices.append(later.index(run[k]))
    return choices
