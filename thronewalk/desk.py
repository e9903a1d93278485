"""A desk, which takes lines, keeps the news among them, and answers."""

from thronewalk.folk import LAST_DAY
from thronewalk.heirs import heir_of
from thronewalk.news import MOST_NEWS, is_news
from thronewalk.orders import order_of
from thronewalk.reading import is_written_number, news_of, number_of
from thronewalk.reigns import last_at, regent_at, reigns, sitter_at
from thronewalk.texts import NOBODY, news_line, who_word
from thronewalk.thrones import begins_on

NO_LINE = "no line"


def tell_sits(house, book, rule, day):
    return who_word(sitter_at(house, book, rule, day))


def tell_last(house, book, rule, day):
    return who_word(last_at(house, book, rule, day))


def tell_regent(house, book, rule, day):
    return who_word(regent_at(house, book, rule, day))


def tell_order(house, book, rule, day):
    # Founders of other rows may be born ahead of the throne's beginning.
    if day < begins_on(house, rule):
        return NOBODY
    order = order_of(house, book, rule, day, last_at(house, book, rule, day))
    return " ".join([str(who) for who in order]) or NOBODY


def tell_reigns(house, book, rule, day):
    pairs = reigns(house, book, rule, day)
    return " ".join([str(begun) + " " + who_word(who) for begun, who in pairs]) or NOBODY


def tell_heir(house, book, rule, day):
    sits = sitter_at(house, book, rule, day)
    if sits == -1:
        return NOBODY
    told = heir_of(house, book, rule, day, sits)
    return NOBODY if len(told) == 1 else str(told[1]) + " " + told[0]


def tell_book(book):
    return ";".join([news_line(news) for news in book]) or NOBODY


ASKS = {
    "sits": tell_sits,
    "last": tell_last,
    "regent": tell_regent,
    "order": tell_order,
    "reigns": tell_reigns,
    "heir": tell_heir,
}


class Desk:
    """Keeps the news in the order in which they came, so that they can be taken back."""

    def __init__(self, house, rule):
        self.house = house
        self.rule = rule
        self.came = ()

    def say(self, thing):
        if not isinstance(thing, str):
            return NO_LINE
        words = thing.split(" ")
        if words == ["back"]:
            return self.take_back()
        news = news_of(words)
        if news:
            return self.take(news)
        return answer(self.house, tuple(sorted(self.came)), self.rule, words)

    def take(self, news):
        if not is_news(self.house, news):
            return "no news"
        if news in self.came:
            return "twice"
        if len(self.came) >= MOST_NEWS:
            return "full"
        self.came = self.came + (news,)
        return "done"

    def take_back(self):
        if not self.came:
            return "no news"
        self.came = self.came[:-1]
        return "done"


def answer(house, book, rule, words):
    if words == ["book"]:
        return tell_book(book)
    if len(words) != 2 or words[0] not in ASKS or not is_written_number(words[1]):
        return NO_LINE
    day = number_of(words[1])
    if day > last_day_of(words[0]):
        return NO_LINE
    ask = ASKS[words[0]]
    return ask(house, book, rule, day)


def last_day_of(word):
    # An heir is told with a birth on the next day.
    return LAST_DAY - 1 if word == "heir" else LAST_DAY
