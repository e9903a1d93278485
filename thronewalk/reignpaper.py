"""Looking over the paper of reigns, without seeking anything."""

from thronewalk.firsts import right_first
from thronewalk.folk import is_folk_of
from thronewalk.news import book_up_to
from thronewalk.plain import is_number, is_tuple_of
from thronewalk.thrones import last_behind, sits_on, turning_days
from thronewalk.waits import child_house, open_awaits


def right_reigns(house, book, rule, until, thing):
    if not isinstance(thing, tuple):
        return False
    sits = -1
    last = rule[0][0]
    read = 0
    for day in turning_days(house, book, rule, until):
        if not sits_on(book, day, sits):
            if read == len(thing) or not right_row(house, book, rule, day, last, thing[read]):
                return False
            sits = thing[read][1]
            last = last_behind(last, sits)
            read += 1
    return read == len(thing)


def right_row(house, book, rule, day, last, row):
    if not is_tuple_of(row, 5) or not is_number(row[0]) or row[0] != day:
        return False
    who, word = row[1:3]
    if word == "waits":
        return who == -1 and right_waits(house, book, rule, day, last, row[3], row[4])
    if word == "nobody":
        return who == -1 and right_others(house, book, rule, day, last, who, row[3], row[4])
    if word == "sits":
        return is_folk_of(house, who) and right_others(house, book, rule, day, last, who, row[3], row[4])
    return False


def right_waits(house, book, rule, day, last, place, paper):
    if not is_number(place) or place not in open_awaits(house, book, day):
        return False
    awaited = child_house(house, book, day, place)
    return right_first(awaited, book_up_to(book, day), rule, day, last, len(awaited) - 1, paper)


def right_others(house, book, rule, day, last, who, paper, others):
    places = open_awaits(house, book, day)
    if not is_tuple_of(others, len(places)) or not right_first(house, book, rule, day, last, who, paper):
        return False
    told = book_up_to(book, day)
    for place, other in zip(places, others):
        if not right_first(child_house(house, book, day, place), told, rule, day, last, who, other):
            return False
    return True
