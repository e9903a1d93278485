"""Point [27] once more, gone through word by word."""

from string import ascii_lowercase

from tests.slow import number
from thronewalk.errors import NoBook
from thronewalk.news import check_book


def is_news(house, thing):
    try:
        check_book(house, (thing,))
    except NoBook:
        return False
    return True


def is_name(thing):
    if type(thing) is not tuple or len(thing) != 2 or type(thing[0]) is not str or not number(thing[1]):
        return False
    return len(thing[0]) in range(1, 9) and set(thing[0]) <= set(ascii_lowercase) and thing[1] in range(100)


def is_scroll(house, thing):
    if type(thing) is not tuple or len(thing) != 2 or type(thing[0]) is not tuple or type(thing[1]) is not tuple:
        return False
    entries, strikes = thing
    for entry in entries:
        if type(entry) is not tuple or len(entry) != 3 or not is_name(entry[:2]) or not is_news(house, entry[2]):
            return False
    names = [(entry[0], entry[1]) for entry in entries]
    if names != sorted(set(names)) or len(names) > 60:
        return False
    if not all(is_name(strike) and strike in names for strike in strikes):
        return False
    return list(strikes) == sorted(set(strikes))


def book_of(scroll):
    told = []
    for writer, at, news in scroll[0]:
        if (writer, at) not in scroll[1] and news not in told:
            told.append(news)
    return tuple(sorted(told))
