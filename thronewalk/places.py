"""Looking over the paper of a place, without seeking anything."""

from thronewalk.folk import are_folk_of
from thronewalk.plain import is_rising, is_tuple_of
from thronewalk.steps import is_line, steps_of


def right_place(house, book, row, day, who, thing):
    if not is_tuple_of(thing, 2):
        return False
    line, ahead = thing
    if not is_line(house, book, row, day, line) or line[-1] != who:
        return False
    if not are_folk_of(house, ahead) or not is_rising(ahead):
        return False
    if who in ahead or not all(folk in ahead for folk in line[:-1]):
        return False
    beside = [folk for folk in ahead if folk not in line]
    led = ranked_ahead(house, book, row, day, line)
    for folk in beside:
        led.extend(steps_of(house, book, row, day, folk))
    # All who are led to stand beside the line, and all beside it are led to.
    return sorted(set(led)) == beside


def ranked_ahead(house, book, row, day, line):
    """The steps from the folk of a line that rank ahead of its next one."""
    found = []
    for at in range(len(line) - 1):
        steps = steps_of(house, book, row, day, line[at])
        found.extend(steps[:steps.index(line[at + 1])])
    return found
