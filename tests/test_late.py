"""Point [29]: from which day on two books tell another reign; and [3] (k), its last words."""

import unittest

from tests import slow_thrones
from tests.makers import FAMILY, LAST, Dice, some_house, some_rule, some_thrones, some_whole_book
from thronewalk.late import changed_from
from thronewalk.news import check_book
from thronewalk.reigns import reigns

RULE = ((0, "alike", 0, "lines"),)


class ByHand(unittest.TestCase):
    def tells(self, one, other, until=LAST, rule=RULE, house=FAMILY):
        check_book(house, one)
        check_book(house, other)
        told = changed_from(house, one, other, rule, until)
        self.assertIs(type(told), int)
        # Either way round it's the same day.
        self.assertEqual(changed_from(house, other, one, rule, until), told)
        return told

    def test_like_books(self):
        for book in ((), (("dies", 80, 0, -1),), (("dies", 0, 0, -1), ("leaves", 80, 2, -1))):
            self.assertEqual(self.tells(book, book), -1)

    def test_one_dies(self):
        self.assertEqual(self.tells((), (("dies", 80, 0, -1),)), 80)
        self.assertEqual(self.tells((("dies", 90, 0, -1),), (("dies", 80, 0, -1),)), 80)

    def test_up_to_the_day(self):
        for until, told in ((0, -1), (79, -1), (80, 80), (81, 80), (LAST, 80)):
            self.assertEqual(self.tells((), (("dies", 80, 0, -1),), until), told)

    def test_a_news_that_changes_nothing(self):
        self.assertEqual(self.tells((), (("dies", 80, 9, -1),)), -1)
        self.assertEqual(self.tells((), (("leaves", 80, 2, -1), ("returns", 80, 2, -1))), -1)
        self.assertEqual(self.tells((), (("awaits", 80, 2, 3),)), -1)

    def test_a_news_that_changes_something_later(self):
        # That 2 left matters once the founder dies.
        dies = (("dies", 80, 0, -1),)
        self.assertEqual(self.tells(dies, dies + (("leaves", 50, 2, -1),)), 80)
        self.assertEqual(self.tells(dies, dies + (("leaves", 50, 2, -1),), 79), -1)
        self.assertEqual(self.tells(dies, dies + (("leaves", 80, 2, -1),)), 80)
        self.assertEqual(self.tells(dies, dies + (("leaves", 85, 2, -1),)), 85)

    def test_for_a_while_alone(self):
        # From 90 on 5 sits by both; till then 2 does by the one.
        one = (("dies", 80, 0, -1), ("dies", 90, 2, -1))
        other = (("dies", 80, 0, -1), ("dies", 90, 2, -1), ("leaves", 80, 2, -1))
        self.assertEqual(reigns(FAMILY, one, RULE, LAST), ((0, 0), (80, 2), (90, 5)))
        self.assertEqual(reigns(FAMILY, other, RULE, LAST), ((0, 0), (80, 5)))
        for until in (80, 89, 90, LAST):
            self.assertEqual(self.tells(one, other, until), 80)

    def test_nobody_and_somebody(self):
        house = FAMILY[:2]
        self.assertEqual(self.tells((), (("dies", 30, 0, -1),), house=house), 30)
        self.assertEqual(self.tells((), (("dies", 0, 0, -1),), house=house), 0)
        self.assertEqual(self.tells((("dies", 0, 0, -1),), (("leaves", 0, 0, -1),), house=house), -1)

    def test_ahead_of_the_beginning(self):
        # A throne that begins on 10: what befell ahead of it tells there at the earliest.
        rule = ((2, "alike", 0, "lines"), (1, "alike", 0, "lines"))
        books = ((("dies", 10, 2, -1),), (("dies", 5, 1, -1), ("dies", 10, 2, -1)))
        self.assertEqual(self.tells(books[0], books[1], rule=rule), 10)
        self.assertEqual(self.tells(books[0], books[1], 9, rule=rule), -1)
        self.assertEqual(self.tells((), (("dies", 5, 1, -1),), rule=rule), -1)
        self.assertEqual(self.tells((), (("dies", 10, 2, -1),), 9, rule=rule), -1)

    def test_an_awaited_child(self):
        # The mother isn't reached; while the child is awaited nobody sits, and 300 days behind it the brother does.
        house = ((0, -1, -1, 1, 1), (0, -1, -1, 0, 1), (5, 0, -1, 1, 1), (6, 0, -1, 1, 1))
        gone = (("dies", 20, 0, -1), ("dies", 20, 2, -1))
        self.assertEqual(self.tells(gone, (("awaits", 15, 1, 2),) + gone, house=house), 20)
        self.assertEqual(self.tells((("awaits", 15, 1, 2),) + gone, (("awaits", 16, 1, 2),) + gone, house=house), 315)


class DayByDay(unittest.TestCase):
    def by_words(self, house, one, other, rule, until):
        first, second = (
            {day: sits for day, sits, last in slow_thrones.seats(house, book, rule, until)} for book in (one, other))
        days = [day for day in range(until + 1) if first.get(day, -1) != second.get(day, -1)]
        return days[0] if days else -1

    def test_as_the_words_say(self):
        dice = Dice(381)
        changed = 0
        for scale, many in ((12, 200), (250, 40)):
            for house, book, rule, day in some_thrones(382 + scale, many, 8, scale, 12):
                other = tuple(news for news in book if dice.below(5) > 0)
                if dice.below(2) == 0:
                    other = tuple(sorted({*other, *some_whole_book(dice, house, 3, scale)}))
                told = changed_from(house, book, other, rule, day)
                self.assertEqual(told, self.by_words(house, book, other, rule, day))
                self.assertEqual(changed_from(house, other, book, rule, day), told)
                # Never ahead of the first day of a news that one of them lacks.
                lacking = [news[1] for news in set(book) ^ set(other)]
                self.assertTrue(told == -1 or told >= min(lacking))
                changed += told != -1
        self.assertGreater(changed, 30)

    def test_sixty_and_sixty(self):
        dice = Dice(383)
        for _ in range(4):
            house = some_house(dice, 60, 400)
            book = some_whole_book(dice, house, 60, 400)
            other = book[:20] + book[21:]
            told = changed_from(house, book, other, some_rule(dice, house), LAST)
            self.assertTrue(told == -1 or told >= book[20][1])


if __name__ == "__main__":
    unittest.main()
