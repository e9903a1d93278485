"""When a throne begins, on which days it may turn, and who sits on."""

from thronewalk.folk import day_of
from thronewalk.news import is_dead, is_out
from thronewalk.waits import DAYS_OPEN


def begins_on(house, rule):
    return day_of(house, rule[0][0])


def turning_days(house, book, rule, until):
    """The days, from the beginning up to one, on which another one may come to sit."""
    days = [folk[0] for folk in house]
    days.extend([news[1] for news in book])
    days.extend([news[1] + DAYS_OPEN for news in book if news[0] == "awaits"])
    # The beginning is the founder's day, so it's among them.
    return [day for day in sorted(set(days)) if begins_on(house, rule) <= day <= until]


def sits_on(book, day, sits):
    return sits != -1 and not is_dead(book, day, sits) and not is_out(book, day, sits)


def last_behind(last, sits):
    """Who is last once sits (-1 for nobody) has come to sit."""
    return last if sits == -1 else sits


def days_of(pairs):
    """The days of pairs (day, who), perhaps of several thrones, each once, from the first one on."""
    return sorted(set([pair[0] for pair in pairs]))


def sitter_by(pairs, day):
    """Who sits on a day, -1 for nobody, by the pairs (day, who) of one throne."""
    sits = -1
    for begun, who in pairs:
        if begun <= day:
            sits = who
    return sits
