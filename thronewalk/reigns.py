"""Who sat from which day on, who sat last, and who sits for a child."""

from thronewalk.folk import day_of
from thronewalk.news import book_up_to
from thronewalk.orders import first_of, order_of
from thronewalk.thrones import last_behind, sits_on, turning_days
from thronewalk.waits import child_house, open_awaits

DAYS_OF_AGE = 6570


def reigns(house, book, rule, until):
    told = []
    sits = -1
    last = rule[0][0]
    for day in turning_days(house, book, rule, until):
        if not sits_on(book, day, sits):
            came = comes_to_sit(house, book, rule, day, last)
            if came != sits or not told:
                told.append((day, came))
            sits = came
            last = last_behind(last, sits)
    return tuple(told)


def comes_to_sit(house, book, rule, day, last):
    """Who sits, -1 for nobody, on a day on which nobody sits on."""
    if waits_for_child(house, book, rule, day, last):
        return -1
    return first_of(house, book, rule, day, last)


def waits_for_child(house, book, rule, day, last):
    told = book_up_to(book, day)
    for place in open_awaits(house, book, day):
        awaited = child_house(house, book, day, place)
        if first_of(awaited, told, rule, day, last) == len(awaited) - 1:
            return True
    return False


def seat_at(house, book, rule, day):
    """A tuple (sits, last), as both are at the end of a day."""
    sits = -1
    last = rule[0][0]
    for begun, who in reigns(house, book, rule, day):
        sits = who
        last = last_behind(last, who)
    return (sits, last)


def sitter_at(house, book, rule, day):
    return seat_at(house, book, rule, day)[0]


def last_at(house, book, rule, day):
    return seat_at(house, book, rule, day)[1]


def regent_at(house, book, rule, day):
    sits = sitter_at(house, book, rule, day)
    if sits == -1 or is_of_age(house, day, sits):
        return -1
    for who in order_of(house, book, rule, day, sits):
        if who != sits and is_of_age(house, day, who):
            return who
    return -1


def is_of_age(house, day, who):
    return day - day_of(house, who) >= DAYS_OF_AGE
