"""Point [30]: reading texts of houses, books and rules, and refusing anything else."""

import unittest

from tests.makers import FAMILY, LAST, ODD_THINGS, Dice, is_plain, ladder, row_of, some_house, some_rule, some_thrones
from thronewalk.errors import NoText
from thronewalk.folk import check_house
from thronewalk.news import check_book
from thronewalk.reading import read_book, read_house, read_rule
from thronewalk.rules import check_rule
from thronewalk.texts import book_text, house_text, rule_text

BOOK = (
    ("awaits", 82, 2, -1), ("awaits", 82, 2, 3), ("cuts", 25, 3, -1), ("dies", 80, 0, -1), ("leaves", 80, 2, -1),
    ("returns", 81, 2, -1))
RULE = ((2, "first", 1, "lines"), (1, "alike", 0, "age"), (0, "only", 1, "near"))
MANY = "9" * 3000


def read_family_book(thing):
    return read_book(FAMILY, thing)


def read_family_rule(thing):
    return read_rule(FAMILY, thing)


class Reading(unittest.TestCase):
    def refuses(self, read, thing):
        before = repr(thing)
        with self.assertRaises(NoText):
            read(thing)
        self.assertEqual(repr(thing), before)

    def reads(self, read, thing, right):
        told = read(thing)
        self.assertEqual(told, right)
        self.assertTrue(is_plain(told))


class Houses(Reading):
    def test_these_are_read(self):
        self.reads(read_house, "0 - - man wed\n", ((0, -1, -1, 1, 1),))
        self.reads(read_house, "99999 - - woman unwed\n", ((LAST, -1, -1, 0, 0),))
        self.reads(read_house, "0 - - man wed\n7 0 - woman unwed\n", ((0, -1, -1, 1, 1), (7, 0, -1, 0, 0)))
        self.reads(read_house, house_text(FAMILY), FAMILY)

    def test_nobody_elsewhere(self):
        for line in ("- - - man wed", "0 - - - wed", "0 - - man -", "-", "- - - - -"):
            self.refuses(read_house, line + "\n")

    def test_numbers(self):
        for line in (
                "00 - - man wed", "01 - - man wed", "+1 - - man wed", "-1 - - man wed", "-0 - - man wed",
                "1_0 - - man wed", "1.0 - - man wed", "0x1 - - man wed", "a - - man wed", " - - man wed",
                "100000 - - man wed", "099999 - - man wed", MANY + " - - man wed", "0" * 3000 + " - - man wed",
                "0 -1 - man wed", "0 - -1 man wed", "0 0 - man wed", "0 - 0 man wed", "0 1 - man wed",
                "0 " + MANY + " - man wed", "0 - " + MANY + " man wed", "0 -- - man wed"):
            self.refuses(read_house, line + "\n")
        for father in ("00", "+0", "-1", "1", "2", "", MANY, "100000", "0.0", "zero"):
            self.refuses(read_house, "0 - - man wed\n7 " + father + " - man wed\n")

    def test_words(self):
        for line in (
                "0 - - men wed", "0 - - Man wed", "0 - - man Wed", "0 - - man all", "0 - - 1 1", "0 - - man 1",
                "0 - - wed man", "0 - - womanwed", "0 - - man unwedd", "0 - -  wed", "0 - - man "):
            self.refuses(read_house, line + "\n")

    def test_too_many_and_too_few_words(self):
        for line in ("0 - - man", "0 - - man wed wed", "0 - man wed", "0 - - - man wed", "0", "", "man wed"):
            self.refuses(read_house, line + "\n")

    def test_blanks(self):
        for text in (
                " 0 - - man wed\n", "0  - - man wed\n", "0 - - man wed \n", "0 - - man  wed\n", "0 - - man wed\n ",
                "0\t- - man wed\n", "0 - - man wed\n \n", " \n", " "):
            self.refuses(read_house, text)

    def test_line_ends(self):
        for text in (
                "0 - - man wed", "0 - - man wed\n\n", "\n0 - - man wed\n", "0 - - man wed\n7 0 - man wed",
                "0 - - man wed\n\n7 0 - man wed\n", "0 - - man\nwed\n", "\n", "\n\n", "0 - - man wed\r\n",
                "0 - - man wed7 0 - man wed\n", "0 - - man wed;7 0 - man wed\n"):
            self.refuses(read_house, text)

    def test_no_house(self):
        for text in (
                "", "7 - - man wed\n6 - - man wed\n", "0 - - woman wed\n7 0 - man wed\n", "0 - - man wed\n7 - 0 man wed\n",
                "0 - - man wed\n0 0 - man wed\n", "0 1 - man wed\n7 - - man wed\n", "0 - - man wed\n7 1 - man wed\n"):
            self.refuses(read_house, text)

    def test_sixty_and_sixty_one(self):
        self.reads(read_house, house_text(row_of(60)), row_of(60))
        self.refuses(read_house, house_text(row_of(61)))
        self.refuses(read_house, "0 - - man wed\n" * 300)

    def test_no_texts(self):
        for thing in ODD_THINGS + (FAMILY, (house_text(FAMILY),), [house_text(FAMILY)], {"a": "0 - - man wed\n"}):
            self.refuses(read_house, thing)

    def test_other_texts(self):
        for thing in (book_text(BOOK), rule_text(RULE)):
            self.refuses(read_house, thing)


class Books(Reading):
    def test_these_are_read(self):
        self.reads(read_family_book, "", ())
        self.reads(read_family_book, "dies 80 0\n", (("dies", 80, 0, -1),))
        self.reads(read_family_book, "awaits 82 2 -\n", (("awaits", 82, 2, -1),))
        self.reads(read_family_book, "awaits 82 2 3\n", (("awaits", 82, 2, 3),))
        self.reads(read_family_book, "dies 99999 0\n", (("dies", LAST, 0, -1),))
        self.reads(read_family_book, book_text(BOOK), BOOK)

    def test_nobody_elsewhere(self):
        for line in (
                "dies 80 0 -", "dies 80 -", "dies - 0", "- 80 0", "awaits 82 - 3", "awaits - 2 3", "awaits 82 2 -1",
                "leaves 80 0 -", "cuts 80 0 -", "returns 80 0 -", "-", "awaits 82 2 --"):
            self.refuses(read_family_book, line + "\n")

    def test_numbers(self):
        for number in ("080", "+80", "-80", "8 0", "80.", "", "100000", "099999", MANY, "0" * 3000, "eighty", "8_0"):
            self.refuses(read_family_book, "dies " + number + " 0\n")
            self.refuses(read_family_book, "awaits " + number + " 2 3\n")
        for number in ("00", "+0", "-0", "10", "0.", "", MANY, "x", "-1"):
            self.refuses(read_family_book, "dies 80 " + number + "\n")
        for number in ("03", "+3", "-3", "10", "2", "", MANY, "x", "-1"):
            self.refuses(read_family_book, "awaits 82 2 " + number + "\n")

    def test_words(self):
        for line in (
                "die 80 0", "Dies 80 0", "dies80 0", "dies 80", "dies", "dies 80 0 0", "dies 80 0 3", "awaits 82 2",
                "awaits 82 2 3 3", "awaits 82", "weds 80 0", "80 0", "80 dies 0", "", "sits 80"):
            self.refuses(read_family_book, line + "\n")

    def test_blanks_and_line_ends(self):
        for text in (
                " dies 80 0\n", "dies  80 0\n", "dies 80 0 \n", "dies 80 0", "dies 80 0\n\n", "\ndies 80 0\n", "\n", " ",
                "dies 80 0\n ", "dies 80 0;leaves 80 2\n", "dies 80 0\nleaves 80 2", "dies 80\n0\n", "dies\t80 0\n"):
            self.refuses(read_family_book, text)

    def test_no_book(self):
        for text in (
                "leaves 80 2\ndies 80 0\n", "dies 80 0\ndies 80 0\n", "dies 69 9\n", "awaits 82 0 -\n", "awaits 10 2 -\n",
                "awaits 82 2 1\n", "dies 80 0\ndies 79 0\n"):
            self.refuses(read_family_book, text)

    def test_of_another_house(self):
        self.refuses(lambda thing: read_book(FAMILY[:2], thing), book_text(BOOK))
        self.reads(lambda thing: read_book(FAMILY[:4], thing), book_text(BOOK), BOOK)

    def test_sixty_and_sixty_one(self):
        books = [tuple(("dies", 10000 + at, 0, -1) for at in range(many)) for many in (60, 61)]
        self.reads(read_family_book, book_text(books[0]), books[0])
        self.refuses(read_family_book, book_text(books[1]))

    def test_no_texts(self):
        for thing in ODD_THINGS + (BOOK, (), (book_text(BOOK),), [book_text(BOOK)]):
            if thing == "":
                self.reads(read_family_book, thing, ())
            else:
                self.refuses(read_family_book, thing)

    def test_other_texts(self):
        for thing in (house_text(FAMILY), rule_text(RULE)):
            self.refuses(read_family_book, thing)


class Rules(Reading):
    def test_these_are_read(self):
        self.reads(read_family_rule, "0 first wed lines\n", ((0, "first", 1, "lines"),))
        self.reads(read_family_rule, "9 alike all near\n", ((9, "alike", 0, "near"),))
        self.reads(read_family_rule, rule_text(RULE), RULE)

    def test_nobody(self):
        for line in ("- first wed lines", "0 - wed lines", "0 first - lines", "0 first wed -", "-"):
            self.refuses(read_family_rule, line + "\n")

    def test_numbers(self):
        for number in ("00", "+0", "-0", "-1", "10", "", "0.", MANY, "0" * 3000, "x", "100000"):
            self.refuses(read_family_rule, number + " first wed lines\n")

    def test_words(self):
        for line in (
                "0 men wed lines", "0 First wed lines", "0 first unwed lines", "0 first 1 lines", "0 first 0 lines",
                "0 first wed line", "0 first wed", "0 first wed lines lines", "0 wed first lines", "first wed lines",
                "0 first  lines", "0  wed lines", ""):
            self.refuses(read_family_rule, line + "\n")

    def test_blanks_and_line_ends(self):
        for text in (
                "", "\n", " ", "0 first wed lines", "0 first wed lines\n\n", "\n0 first wed lines\n", " 0 first wed lines\n",
                "0 first wed lines \n", "0  first wed lines\n", "0 first wed lines\n0 first wed age"):
            self.refuses(read_family_rule, text)

    def test_no_rule(self):
        row = "0 first wed lines\n"
        self.reads(read_family_rule, row * 3, ((0, "first", 1, "lines"),) * 3)
        self.refuses(read_family_rule, row * 4)
        # A founder with a day above that of the first one's.
        self.refuses(read_family_rule, row + "2 first wed lines\n")
        self.refuses(lambda thing: read_rule(FAMILY[:2], thing), rule_text(RULE))

    def test_no_texts(self):
        for thing in ODD_THINGS + (RULE, (rule_text(RULE),), [rule_text(RULE)]):
            self.refuses(read_family_rule, thing)

    def test_other_texts(self):
        for thing in (house_text(FAMILY), book_text(BOOK)):
            self.refuses(read_family_rule, thing)


class ThereAndBack(Reading):
    def test_what_is_told_is_read_as_the_same(self):
        for scale in (12, 400):
            for house, book, rule, day in some_thrones(391 + scale, 150, 9, scale, 14):
                self.reads(read_house, house_text(house), house)
                self.reads(lambda thing: read_book(house, thing), book_text(book), book)
                self.reads(lambda thing: read_rule(house, thing), rule_text(rule), rule)
        for house in (ladder(60), row_of(60), some_house(Dice(392), 60, 90000)):
            self.reads(read_house, house_text(house), house)

    def test_just_the_texts(self):
        """Whatever is read is told again as the very same text."""
        dice = Dice(393)
        read = 0
        signs = "0123456789- \nadiesmnuwo"
        for _ in range(60):
            house = some_house(dice, 5, 12)
            rule = some_rule(dice, house)
            book = tuple(news for news in BOOK if news[2] < 1)
            for at in range(60):
                read += self.look_at(dice, signs, house_text(house), read_house, house_text, check_house)
                read += self.look_at(
                    dice, signs, rule_text(rule), lambda thing: read_rule(house, thing), rule_text,
                    lambda thing: check_rule(house, thing))
                read += self.look_at(
                    dice, signs, book_text(book or (("dies", 90, 0, -1),)), lambda thing: read_book(house, thing),
                    book_text, lambda thing: check_book(house, thing))
        self.assertGreater(read, 100)

    def look_at(self, dice, signs, text, read, tell, check):
        at = dice.below(len(text) + 1)
        bent = text[:at] + dice.one_of(signs + "~") + text[at + dice.below(2):]
        try:
            told = read(bent)
        except NoText:
            return 0
        self.assertIsNone(check(told))
        self.assertEqual(tell(told), bent)
        return 1


if __name__ == "__main__":
    unittest.main()
