"""Looking over the paper of a place, without seeking anything."""

from thronewalk.folk import are_folk_of
from thronewalk.plain import is_rising, is_tuple_of
from thronewalk.steps import all_steps, is_line


def right_place(house, book, row, day, who, thing):
    if not is_tuple_of(thing, 2):
        return False
    line, ahead = thing
    if not is_line(house, book, row, day, line) or line[-1] != who:
        return False
    if not are_folk_of(house, ahead) or not is_rising(ahead):
        return False
    if who in ahead or not all(folk in ahead for folk in line[:-1]):
        return False
    beside = [folk for folk in ahead if folk not in line]
    steps = all_steps(house, book, row, day)
    led = ranked_ahead(steps, line)
    for folk in beside:
        led.extend(steps[folk])
    # All who are led to stand beside the line, and all beside it are led to.
    return sorted(set(led)) == beside


def ranked_ahead(steps, line):
    """The steps from the folk of a line that rank ahead of its next one."""
    found = []
    for at in range(len(line) - 1):
        ranked = steps[line[at]]
        found.extend(ranked[:ranked.index(line[at + 1])])
    return found
