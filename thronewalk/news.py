"""News, tuples (word, day, who, other), and books of them."""

from thronewalk.errors import NoBook
from thronewalk.folk import LAST_DAY, day_of, is_folk_of, is_man
from thronewalk.plain import is_number, is_rising, is_tuple_of

MOST_NEWS = 60
WORDS = ("dies", "leaves", "cuts", "returns", "awaits")


def check_book(house, thing):
    if not is_book(house, thing):
        raise NoBook()


def is_book(house, thing):
    if not isinstance(thing, tuple) or len(thing) > MOST_NEWS:
        return False
    # The order is asked last: unlike kinds of things can't be compared.
    return all(is_news(house, news) for news in thing) and is_rising(thing)


def is_news(house, thing):
    if not is_tuple_of(thing, 4):
        return False
    word, day, who, other = thing
    if word not in WORDS or not is_folk_of(house, who) or not is_number(day):
        return False
    if not day_of(house, who) <= day <= LAST_DAY:
        return False
    if word == "awaits":
        return may_await(house, day, who, other)
    return other == -1


def may_await(house, day, who, other):
    if is_man(house, who) or day == day_of(house, who):
        return False
    if other == -1:
        return True
    return is_folk_of(house, other) and is_man(house, other) and day_of(house, other) < day


def days_of(book, day, who, word):
    return [news[1] for news in book if news[0] == word and news[1] <= day and news[2] == who]


def days_behind_back(book, day, who, word):
    back = max(days_of(book, day, who, "returns"), default=-1)
    return [told for told in days_of(book, day, who, word) if told > back]


def is_dead(book, day, who):
    return len(days_of(book, day, who, "dies")) > 0


def is_out(book, day, who):
    left = days_behind_back(book, day, who, "leaves")
    cuts = days_behind_back(book, day, who, "cuts")
    return len(left) + len(cuts) > 0


def cut_from(book, day, who):
    return min(days_behind_back(book, day, who, "cuts"), default=-1)
