"""News, tuples (word, day, who, other), and books of them."""

from thronewalk.errors import NoBook
from thronewalk.folk import LAST_DAY, day_of, is_folk_of, is_man
from thronewalk.plain import is_number, is_rising, is_tuple_of

MOST_NEWS = 60
WORDS = ("dies", "leaves", "cuts", "returns", "awaits")


def check_book(house, thing):
    if not is_book(house, thing):
        raise NoBook()


def is_book(house, thing):
    if not isinstance(thing, tuple) or len(thing) > MOST_NEWS:
        return False
    # The order is asked last: unlike kinds of things can't be compared.
    return all(is_news(house, news) for news in thing) and is_rising(thing)


def is_news(house, thing):
    if not is_tuple_of(thing, 4):
        return False
    word, day, who, other = thing
    if word not in WORDS or not is_folk_of(house, who) or not is_number(day):
        return False
    if not day_of(house, who) <= day <= LAST_DAY:
        return False
    if word == "awaits":
        return may_await(house, day, who, other)
    return other == -1


def may_await(house, day, who, other):
    if is_man(house, who) or day == day_of(house, who):
        return False
    if other == -1:
        return True
    return is_folk_of(house, other) and is_man(house, other) and day_of(house, other) < day


def book_up_to(book, day):
    return tuple(news for news in book if news[1] <= day)


def backs_by(book, day):
    """The back of each folk who has one."""
    backs = {}
    for word, told, who, other in book:
        if word == "returns" and told <= day:
            backs[who] = max(told, backs.get(who, -1))
    return backs


def news_behind_back(book, day, words):
    """The news with one of these words, up to the day, that no return has undone."""
    backs = backs_by(book, day)
    return [news for news in book if news[0] in words and backs.get(news[2], -1) < news[1] <= day]


def dead_by(book, day):
    """All who are dead, as the keys of a dict."""
    return {news[2]: True for news in book if news[0] == "dies" and news[1] <= day}


def out_by(book, day):
    """All who are out, as the keys of a dict."""
    return {news[2]: True for news in news_behind_back(book, day, ("leaves", "cuts"))}


def cuts_by(book, day):
    """Of each folk who is cut, the day from which on."""
    cuts = {}
    for word, told, who, other in news_behind_back(book, day, ("cuts",)):
        cuts[who] = min(told, cuts.get(who, told))
    return cuts


def is_dead(book, day, who):
    return who in dead_by(book, day)


def is_out(book, day, who):
    return who in out_by(book, day)


def cut_from(book, day, who):
    return cuts_by(book, day).get(who, -1)
