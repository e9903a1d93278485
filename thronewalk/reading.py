"""Reading houses, books and rules from their texts."""

from thronewalk.errors import NoText
from thronewalk.folk import LAST_DAY, is_house
from thronewalk.news import WORDS, is_book
from thronewalk.rules import is_rule
from thronewalk.texts import BIRTHS, COUNTED, NOBODY, SEXES

MOST_FIGURES = 5


def read_house(thing):
    house = tuple(folk_of(words) for words in lines_of(thing))
    if not is_house(house):
        raise NoText()
    return house


def read_book(house, thing):
    book = tuple(news_of(words) for words in lines_of(thing))
    if not is_book(house, book):
        raise NoText()
    return book


def read_rule(house, thing):
    rule = tuple(row_of(words) for words in lines_of(thing))
    if not is_rule(house, rule):
        raise NoText()
    return rule


def lines_of(thing):
    """The words of each line; refused, if it's no text, or its last line isn't ended."""
    if not isinstance(thing, str):
        raise NoText()
    lines = thing.split("\n")
    if lines.pop() != "":
        raise NoText()
    return [line.split(" ") for line in lines]


def folk_of(words):
    """The folk that is written so; () if none is."""
    if len(words) != 5 or not is_written_number(words[0]):
        return ()
    if not is_written_who(words[1]) or not is_written_who(words[2]):
        return ()
    if words[3] not in SEXES or words[4] not in BIRTHS:
        return ()
    return (number_of(words[0]), who_of(words[1]), who_of(words[2]), SEXES.index(words[3]), BIRTHS.index(words[4]))


def news_of(words):
    """The news that is written so, be it one of the house or not; () if none is."""
    if words[0] not in WORDS or len(words) != (4 if words[0] == "awaits" else 3):
        return ()
    if not is_written_number(words[1]) or not is_written_number(words[2]):
        return ()
    # An "awaits" alone has its other written.
    other = words[3] if len(words) == 4 else NOBODY
    if not is_written_who(other):
        return ()
    return (words[0], number_of(words[1]), number_of(words[2]), who_of(other))


def row_of(words):
    """The row that is written so, be it one of the house or not; () if none is."""
    if len(words) != 4 or not is_written_number(words[0]) or words[2] not in COUNTED:
        return ()
    return (number_of(words[0]), words[1], COUNTED.index(words[2]), words[3])


def is_written_number(word):
    if word == "" or not all("0" <= sign <= "9" for sign in word):
        return False
    return word == "0" or word[0] != "0"


def is_written_who(word):
    return word == NOBODY or is_written_number(word)


def number_of(word):
    # Python doesn't read thousands of figures; no day and no folk has more than five, so all such numbers are alike.
    return int(word) if len(word) <= MOST_FIGURES else LAST_DAY + 1


def who_of(word):
    return -1 if word == NOBODY else number_of(word)
