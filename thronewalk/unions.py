"""Who sits on several thrones at once."""

from thronewalk.reigns import reigns, sitter_at
from thronewalk.thrones import days_of, sitter_by


def heads_at(house, book, rules, day):
    return tuple(sitter_at(house, book, rule, day) for rule in rules)


def unions(house, book, one, other, until):
    first = reigns(house, book, one, until)
    second = reigns(house, book, other, until)
    told = []
    on_both = -1
    for day in days_of(first + second):
        who = sitter_by(first, day)
        if who != sitter_by(second, day):
            who = -1
        if who != on_both:
            told.append((day, who))
        on_both = who
    return tuple(told)
