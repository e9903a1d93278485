"""The walk through the steps, and the least lines."""

from thronewalk.errors import NoLine
from thronewalk.rules import founder_is_born
from thronewalk.steps import all_steps


def least_lines(house, book, row, day):
    """The least line of each one who is reached; its keys stand as in the walk."""
    steps = all_steps(house, book, row, day)
    lines = {}
    waiting = [(row[0],)] if founder_is_born(house, row, day) else []
    while waiting:
        line = waiting.pop()
        who = line[-1]
        if who not in lines:
            lines[who] = line
            # The last one in is the next one out, so the first in rank goes in last.
            waiting.extend([line + (step,) for step in reversed(steps[who])])
    return lines


def walk(house, book, row, day):
    return tuple(least_lines(house, book, row, day))


def least_line(house, book, row, day, who):
    lines = least_lines(house, book, row, day)
    if who not in lines:
        raise NoLine()
    return lines[who]
