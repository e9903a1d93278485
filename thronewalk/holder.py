"""One who holds a scroll, writes in it, strikes in it, and hears of others' scrolls."""

from thronewalk.errors import NoEntry, TooMany
from thronewalk.reigns import reigns, sitter_at
from thronewalk.scrolls import LAST_NUMBER, MOST_ENTRIES, book_of, joined, names_of


class Holder:
    """Holds one scroll of a house, which is another tuple behind each change."""

    def __init__(self, house, writer):
        self.house = house
        self.writer = writer
        self.kept = ((), ())

    def write(self, news):
        entries, strikes = self.kept
        number = number_behind(entries, self.writer)
        if len(entries) >= MOST_ENTRIES or number > LAST_NUMBER:
            raise TooMany()
        self.kept = (tuple(sorted(entries + ((self.writer, number, news),))), strikes)
        return number

    def strike(self, writer, number):
        entries, strikes = self.kept
        if (writer, number) not in names_of(entries):
            raise NoEntry()
        self.kept = (entries, tuple(sorted(set(strikes + ((writer, number),)))))

    def hear(self, scroll):
        self.kept = joined(self.kept, scroll)

    def scroll(self):
        return self.kept

    def book(self):
        return book_of(self.kept)

    def sitter_at(self, rule, day):
        return sitter_at(self.house, self.book(), rule, day)

    def reigns(self, rule, until):
        return reigns(self.house, self.book(), rule, until)


def number_behind(entries, writer):
    """The least number above all those of a writer's entries."""
    return max([entry[1] for entry in entries if entry[0] == writer], default=-1) + 1
