"""Children that are awaited, and the houses that they would make."""

from thronewalk.folk import born_by, children_of, day_of
from thronewalk.news import dead_by

DAYS_OPEN = 300


def open_awaits(house, book, day):
    dead = dead_by(book, day)
    return tuple(place for place in range(len(book)) if is_open(house, dead, day, book[place]))


def is_open(house, dead, day, news):
    word, told, who, other = news
    if word != "awaits" or not told <= day < told + DAYS_OPEN or who in dead:
        return False
    return not any(told < day_of(house, child) <= day for child in children_of(house, who))


def child_house(house, book, day, place):
    word, told, who, other = book[place]
    return house[:born_by(house, day)] + ((day, other, who, 1, 1),)
