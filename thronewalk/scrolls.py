"""Scrolls: entries (writer, number, news) of several hands, and which of them are struck."""

from thronewalk.errors import NoScroll, TooMany, Unlike
from thronewalk.news import is_news
from thronewalk.plain import is_number, is_rising, is_tuple_of

MOST_ENTRIES = 60
MOST_LETTERS = 8
LAST_NUMBER = 99


def check_scroll(house, thing):
    if not is_scroll(house, thing):
        raise NoScroll()


def is_scroll(house, thing):
    if not is_tuple_of(thing, 2):
        return False
    entries, strikes = thing
    if not isinstance(entries, tuple) or len(entries) > MOST_ENTRIES:
        return False
    if not all(is_entry(house, entry) for entry in entries):
        return False
    names = names_of(entries)
    return is_rising(names) and are_strikes_of(names, strikes)


def is_entry(house, thing):
    return is_tuple_of(thing, 3) and is_name(thing[:2]) and is_news(house, thing[2])


def is_name(thing):
    """Whether it's a pair (writer, number), by which an entry is known."""
    return is_tuple_of(thing, 2) and is_writer(thing[0]) and is_number(thing[1]) and 0 <= thing[1] <= LAST_NUMBER


def is_writer(thing):
    if not isinstance(thing, str) or not 1 <= len(thing) <= MOST_LETTERS:
        return False
    return all("a" <= sign <= "z" for sign in thing)


def names_of(entries):
    return tuple(entry[:2] for entry in entries)


def are_strikes_of(names, thing):
    if not isinstance(thing, tuple) or not all(is_name(part) for part in thing):
        return False
    return is_rising(thing) and all(part in names for part in thing)


def joined(one, other):
    entries = tuple(sorted(set(one[0] + other[0])))
    # Each scroll has a name once, so one that is twice in both has unlike news.
    if not is_rising(names_of(entries)):
        raise Unlike()
    if len(entries) > MOST_ENTRIES:
        raise TooMany()
    return (entries, tuple(sorted(set(one[1] + other[1]))))


def book_of(scroll):
    entries, strikes = scroll
    return tuple(sorted(set([entry[2] for entry in entries if entry[:2] not in strikes])))
