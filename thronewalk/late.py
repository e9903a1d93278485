"""From which day on late news change who sat."""

from thronewalk.reigns import reigns
from thronewalk.thrones import days_of, sitter_by


def changed_from(house, one, other, rule, until):
    first = reigns(house, one, rule, until)
    second = reigns(house, other, rule, until)
    for day in days_of(first + second):
        if sitter_by(first, day) != sitter_by(second, day):
            return day
    return -1
