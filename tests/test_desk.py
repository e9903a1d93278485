"""Point [31]: desks."""

import unittest

from tests.makers import FAMILY, LAST, ODD_THINGS, Dice, ladder, some_awaits, some_house, some_rule, some_thrones
from thronewalk.desk import Desk
from thronewalk.heirs import heir_of
from thronewalk.news import check_book
from thronewalk.orders import order_of
from thronewalk.reigns import last_at, regent_at, reigns, sitter_at
from thronewalk.texts import book_text, news_line

RULE = ((0, "alike", 0, "lines"),)
ASKS = ("sits", "last", "regent", "order", "reigns", "heir")
MANY = "9" * 3000

# One row's founder is older than the throne.
LATER = ((2, "alike", 0, "lines"), (0, "alike", 0, "near"))


class Saying(unittest.TestCase):
    def setUp(self):
        self.desk = Desk(FAMILY, RULE)

    def say(self, thing, right, desk=None):
        told = (desk or self.desk).say(thing)
        self.assertEqual(told, right, thing)
        self.assertIs(type(told), str)

    def says(self, *pairs):
        for thing, right in pairs:
            self.say(thing, right)


class News(Saying):
    def test_each_word(self):
        self.says(
            ("leaves 80 2", "done"), ("returns 81 2", "done"), ("cuts 82 3", "done"), ("dies 83 0", "done"),
            ("awaits 84 2 3", "done"), ("awaits 84 2 -", "done"),
            ("book", "awaits 84 2 -;awaits 84 2 3;cuts 82 3;dies 83 0;leaves 80 2;returns 81 2"))

    def test_no_news(self):
        self.says(
            ("dies 80 10", "no news"), ("dies 69 9", "no news"), ("dies 100000 0", "no news"),
            ("awaits 84 0 -", "no news"), ("awaits 84 2 2", "no news"), ("awaits 10 2 -", "no news"),
            ("awaits 84 2 10", "no news"), ("awaits 20 2 3", "no news"), ("book", "-"))

    def test_numbers_of_thousands_of_figures(self):
        for line in (
                "dies " + MANY + " 0", "dies 0 " + MANY, "awaits " + MANY + " 2 3", "awaits 84 2 " + MANY,
                "awaits 84 " + MANY + " -", "dies " + "1" + "0" * 5000 + " 0"):
            self.say(line, "no news")
        for line in ("dies 0" + MANY + " 0", "dies 80 0" + MANY, "dies -" + MANY + " 0", "dies " + "0" * 3000 + " 0"):
            self.say(line, "no line")
        self.say("book", "-")

    def test_twice(self):
        self.says(
            ("dies 80 0", "done"), ("dies 80 0", "twice"), ("dies 81 0", "done"), ("dies 80 0", "twice"),
            ("awaits 84 2 3", "done"), ("awaits 84 2 -", "done"), ("awaits 84 2 3", "twice"),
            ("book", "awaits 84 2 -;awaits 84 2 3;dies 80 0;dies 81 0"))

    def fill(self):
        for at in range(60):
            self.say("leaves " + str(100 + at) + " 9", "done")

    def test_full(self):
        self.fill()
        book = self.desk.say("book")
        self.assertEqual(book.count(";"), 59)
        self.says(("leaves 160 9", "full"), ("book", book), ("back", "done"), ("leaves 160 9", "done"))

    def test_the_first_that_is_due(self):
        self.fill()
        self.says(
            ("leaves 160 10", "no news"), ("leaves 100 9", "twice"), ("leaves 159 9", "twice"), ("leaves 160 9", "full"),
            ("dies 69 9", "no news"))

    def test_no_line(self):
        for line in (
                "dies", "dies 80", "dies 80 0 0", "dies 80 0 -", "dies 80 0 -1", "dies x 0", "dies 80 x", "dies - 0",
                "dies 0 -", "dies -1 0", "dies 80 -1", "dies 080 0", "dies 80 00", "dies +80 0", "dies 80 0 ",
                " dies 80 0", "dies  80 0", "dies 80  0", "dies 80 0\n", "\ndies 80 0", "dies\n80 0", "Dies 80 0",
                "die 80 0", "dies80 0", "dies 80 0;leaves 80 2", "dies 80 0\nleaves 80 2\n", "80 0", "weds 80 0",
                "awaits", "awaits 84", "awaits 84 2", "awaits 84 2 3 3", "awaits 84 2 -1", "awaits 9 0 -1",
                "awaits 84 - 3", "awaits - 2 3", "awaits 84 2 03", "awaits 84 2 x", "awaits 84 2 ", "awaits 84 2 --",
                "leaves 80", "cuts 80", "returns 80", "leaves 80 2 -", "cuts 80 2 -", "returns 80 2 -"):
            self.say(line, "no line")
        self.say("book", "-")

    def test_awaits_and_nobody(self):
        # Written well, be it a news of the house or not.
        self.says(("awaits 9 0 -", "no news"), ("awaits 84 2 -", "done"))


class Back(Saying):
    def test_none(self):
        self.says(("back", "no news"), ("back", "no news"), ("book", "-"))

    def test_the_last_that_came(self):
        self.says(
            ("returns 90 2", "done"), ("dies 80 0", "done"), ("leaves 70 2", "done"), ("back", "done"),
            ("book", "dies 80 0;returns 90 2"), ("back", "done"), ("book", "returns 90 2"), ("cuts 80 3", "done"),
            ("back", "done"), ("book", "returns 90 2"), ("back", "done"), ("book", "-"), ("back", "no news"))

    def test_what_was_refused_did_not_come(self):
        self.says(
            ("dies 80 0", "done"), ("leaves 80 2", "done"), ("dies 80 0", "twice"), ("dies 80 10", "no news"),
            ("dies 80", "no line"), ("sits 80", "5"), ("back", "done"), ("book", "dies 80 0"))

    def test_again(self):
        self.says(
            ("dies 80 0", "done"), ("back", "done"), ("dies 80 0", "done"), ("dies 80 0", "twice"), ("back", "done"),
            ("sits 80", "0"), ("back", "no news"))

    def test_no_line(self):
        self.say("dies 80 0", "done")
        for line in ("back 1", "back back", "back ", " back", "Back", "back\n", "back -", "back 80 0", "backs"):
            self.say(line, "no line")
        self.say("book", "dies 80 0")


class Asks(Saying):
    def test_sits(self):
        self.says(("sits 0", "0"), ("dies 80 0", "done"), ("sits 79", "0"), ("sits 80", "2"), ("sits 99999", "2"))
        for who in (2, 3, 4, 5, 6, 7, 8, 9):
            self.say("leaves 90 " + str(who), "done")
        self.says(("sits 89", "2"), ("sits 90", "-"), ("last 90", "2"), ("heir 90", "-"), ("order 90", "-"))

    def test_ahead_of_the_beginning(self):
        desk = Desk(FAMILY, LATER)
        self.say("sits 9", "-", desk)
        self.say("last 9", "2", desk)
        self.say("regent 9", "-", desk)
        self.say("reigns 9", "-", desk)
        self.say("heir 9", "-", desk)
        # The founder of the second row is born and stands, but there's no throne yet.
        self.say("order 9", "-", desk)
        self.say("order 10", "2 0", desk)
        self.say("sits 10", "2", desk)
        self.say("reigns 10", "10 2", desk)
        self.say("heir 10", "0 open", desk)

    def test_last(self):
        self.says(("last 0", "0"), ("dies 80 0", "done"), ("last 79", "0"), ("last 80", "2"), ("last 99999", "2"))

    def test_regent(self):
        house = ((0, -1, -1, 1, 1), (7000, 0, -1, 1, 1), (7001, 0, -1, 0, 1))
        desk = Desk(house, ((1, "alike", 0, "lines"), (0, "alike", 0, "lines")))
        self.say("regent 6999", "-", desk)
        self.say("regent 7000", "0", desk)
        self.say("regent 13569", "0", desk)
        self.say("regent 13570", "-", desk)
        self.say("dies 8000 0", "done", desk)
        self.say("regent 7999", "0", desk)
        self.say("regent 8000", "-", desk)

    def test_order(self):
        self.says(
            ("order 0", "0"), ("order 10", "0 2"), ("order 90", "0 2 5 7 8 3 6 4 9"), ("dies 80 0", "done"),
            ("order 79", "0 2 5 7 8 3 6 4 9"), ("order 80", "2 5 7 8 3 6 4 9"), ("cuts 15 2", "done"),
            ("order 90", "3 6 7 8 4 9"))

    def test_order_with_who_was_last_at_its_end(self):
        desk = Desk(FAMILY, ((0, "alike", 0, "near"),))
        self.say("order 80", "0 2 3 4 5 6 8 9 7", desk)
        # 2 comes to sit on 80, so the order is told from 2 on, by nearness.
        self.say("dies 80 0", "done", desk)
        self.say("last 80", "2", desk)
        self.say("order 79", "0 2 3 4 5 6 8 9 7", desk)
        self.say("order 80", "2 5 8 3 4 7 6 9", desk)

    def test_reigns(self):
        self.says(
            ("reigns 0", "0 0"), ("dies 80 0", "done"), ("reigns 79", "0 0"), ("reigns 80", "0 0 80 2"),
            ("leaves 90 2", "done"), ("reigns 99999", "0 0 80 2 90 5"))
        desk = Desk(FAMILY[:2], RULE)
        self.say("dies 30 0", "done", desk)
        self.say("reigns 30", "0 0 30 -", desk)
        self.say("back", "done", desk)
        self.say("dies 0 0", "done", desk)
        self.say("reigns 99999", "0 -", desk)

    def test_heir(self):
        self.says(("heir 0", "-"), ("heir 90", "2 sure"), ("heir 99998", "2 sure"), ("heir 99999", "no line"))
        desk = Desk(FAMILY, ((0, "first", 0, "lines"),))
        self.say("heir 10", "2 open", desk)
        self.say("heir 20", "3 sure", desk)
        self.say("dies 19 0", "done", desk)
        self.say("sits 19", "2", desk)
        self.say("heir 19", "-", desk)
        self.say("leaves 19 2", "done", desk)
        self.say("sits 19", "-", desk)
        self.say("heir 19", "-", desk)

    def test_heir_of_a_house_of_one(self):
        self.say("heir 5", "-", Desk(FAMILY[:1], RULE))

    def test_no_line(self):
        for ask in ASKS:
            for line in (
                    ask, ask + " ", ask + " x", ask + " -", ask + " -1", ask + " +1", ask + " 01", ask + " 00",
                    ask + " 100000", ask + " " + MANY, ask + " 5 5", ask + " 5 ", " " + ask + " 5", ask + "  5",
                    ask + " 5\n", ask + "\n5", ask + "5", ask.upper() + " 5", "5 " + ask, ask + " five", ask + " 1.0",
                    ask + " " + ask):
                self.say(line, "no line")

    def test_days(self):
        for ask in ASKS[:5]:
            self.assertNotEqual(self.desk.say(ask + " 99999"), "no line")
            self.assertNotEqual(self.desk.say(ask + " 0"), "no line")
        self.assertNotEqual(self.desk.say("heir 99998"), "no line")

    def test_book(self):
        self.says(
            ("book", "-"), ("leaves 80 2", "done"), ("book", "leaves 80 2"), ("dies 99999 0", "done"),
            ("book", "dies 99999 0;leaves 80 2"))
        for line in ("book 1", "book ", " book", "book\n", "Book", "book -", "books", "book book"):
            self.say(line, "no line")


class Anything(Saying):
    def test_no_texts_and_other_texts(self):
        self.say("dies 80 0", "done")
        for thing in ODD_THINGS + (
                ("book",), ["book"], {"book": 1}, b"book", "-", "done", "no line", "~", ";", "\n", " ", "book;book",
                "dies 80 0;", "sits 5;last 5", FAMILY, RULE):
            before = repr(thing)
            self.say(thing, "no line")
            self.assertEqual(repr(thing), before)
        self.says(("book", "dies 80 0"), ("back", "done"), ("back", "no news"))

    def test_two_desks_apart(self):
        one, other = Desk(FAMILY, RULE), Desk(FAMILY, RULE)
        self.say("dies 80 0", "done", one)
        self.say("sits 80", "0", other)
        self.say("back", "no news", other)
        self.say("dies 80 0", "done", other)
        self.say("back", "done", one)
        self.say("sits 80", "2", other)
        self.say("sits 80", "0", one)
        self.say("book", "-", one)

    def test_the_same_again(self):
        self.says(("dies 80 0", "done"), ("leaves 80 2", "done"))
        lines = [ask + " " + str(day) for ask in ASKS for day in (0, 79, 80, 90, LAST)] + ["book", "no", "dies 80 0"]
        told = [self.desk.say(line) for line in lines]
        self.assertEqual([self.desk.say(line) for line in lines], told)


class AsTheFunctionsTell(Saying):
    def word(self, who):
        return "-" if who == -1 else str(who)

    def look_over(self, desk, house, book, rule, day):
        self.say("sits " + str(day), self.word(sitter_at(house, book, rule, day)), desk)
        self.say("last " + str(day), self.word(last_at(house, book, rule, day)), desk)
        self.say("regent " + str(day), self.word(regent_at(house, book, rule, day)), desk)
        order = ()
        if day >= house[rule[0][0]][0]:
            order = order_of(house, book, rule, day, last_at(house, book, rule, day))
        self.say("order " + str(day), " ".join(map(str, order)) or "-", desk)
        words = [str(begun) + " " + self.word(who) for begun, who in reigns(house, book, rule, day)]
        self.say("reigns " + str(day), " ".join(words) or "-", desk)
        sits = sitter_at(house, book, rule, day)
        told = heir_of(house, book, rule, day, sits) if sits != -1 else ("nobody",)
        self.say("heir " + str(day), "-" if told == ("nobody",) else str(told[1]) + " " + told[0], desk)
        self.say("book", book_text(book).replace("\n", ";")[:-1] or "-", desk)

    def test_with_news_that_come_in_any_order(self):
        dice = Dice(401)
        for scale in (12, 400):
            for house, book, rule, day in some_thrones(402 + scale, 60, 8, scale, 12):
                desk = Desk(house, rule)
                left, came = list(book), []
                while left:
                    came.append(left.pop(dice.below(len(left))))
                    self.say(news_line(came[-1]), "done", desk)
                    if dice.below(4) == 0:
                        self.say("back", "done", desk)
                        came.pop()
                for asked in (0, day, day + 3):
                    self.look_over(desk, house, tuple(sorted(came)), rule, asked)

    def test_sixty_and_sixty(self):
        dice = Dice(403)
        house = some_house(dice, 60, 300)
        news = {("dies", 310, who, -1) for who in range(12)}
        while len(news) < 60:
            news.add(some_awaits(dice, house, 300))
        book = tuple(sorted(news))
        check_book(house, book)
        for _ in range(2):
            rule = some_rule(dice, house)
            desk = Desk(house, rule)
            for one in book:
                self.say(news_line(one), "done", desk)
            self.say("dies 320 1", "full", desk)
            for day in (320, LAST - 1):
                self.look_over(desk, house, book, rule, day)

    def test_a_ladder_of_sixty(self):
        desk = Desk(ladder(60), RULE)
        for who in range(60):
            self.say("dies " + str(100 + who) + " " + str(who), "done", desk)
        self.say("sits 130", "31", desk)
        self.say("heir 130", "32 sure", desk)
        self.say("order 157", "58 59", desk)
        self.say("reigns 101", "0 0 100 1 101 2", desk)


if __name__ == "__main__":
    unittest.main()
