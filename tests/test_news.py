"""Points [5] and [6]: news, books, and what they say of a folk."""

import unittest

from tests.makers import FAMILY, LAST, ODD_THINGS, WORDS, as_truths, listed, row_of
from thronewalk.errors import NoBook
from thronewalk.news import check_book, cut_from, is_dead, is_out

PLAIN_WORDS = ("cuts", "dies", "leaves", "returns")


class CheckBook(unittest.TestCase):
    def lets_by(self, thing, house=FAMILY):
        self.assertIsNone(check_book(house, thing))

    def refuses(self, thing, house=FAMILY):
        with self.assertRaises(NoBook):
            check_book(house, thing)

    def test_ordinary_books(self):
        self.lets_by((("awaits", 30, 2, 3), ("cuts", 25, 3, -1), ("dies", 80, 0, -1), ("returns", 90, 3, -1)))

    def test_how_many_news(self):
        self.lets_by(())
        self.lets_by(tuple(("dies", day, 0, -1) for day in range(60)))
        self.refuses(tuple(("dies", day, 0, -1) for day in range(61)))

    def test_words(self):
        for word in PLAIN_WORDS:
            self.lets_by(((word, 30, 2, -1),))
        self.lets_by((("awaits", 30, 2, -1),))
        for word in ("", "die", "Dies", "dies ", "births", None, True, 0, ("dies",), ["dies"], {}):
            self.refuses(((word, 30, 2, -1),))

    def test_from_their_own_day_on(self):
        for word in PLAIN_WORDS:
            self.refuses(((word, 9, 2, -1),))
            self.lets_by(((word, 10, 2, -1),))
            self.lets_by(((word, 11, 2, -1),))
            self.lets_by(((word, LAST, 2, -1),))
            self.refuses(((word, LAST + 1, 2, -1),))
            self.lets_by(((word, 0, 0, -1),))
            self.refuses(((word, -1, 0, -1),))

    def test_who_is_a_folk_of_the_house(self):
        for word in PLAIN_WORDS:
            self.lets_by(((word, 90, 9, -1),))
            for who in (10, -1, -2, -10, 10 ** 40):
                self.refuses(((word, 90, who, -1),))
        for who in (10, -1, -9, 10 ** 40):
            self.refuses((("awaits", 90, who, -1),))

    def test_other_is_nobody_but_for_awaits(self):
        for word in PLAIN_WORDS:
            for other in (0, 1, 3, -2, 10 ** 40):
                self.refuses(((word, 30, 2, other),))

    def test_awaits(self):
        self.lets_by((("awaits", 11, 2, -1),))
        self.refuses((("awaits", 10, 2, -1),))
        self.refuses((("awaits", 9, 2, -1),))
        self.lets_by((("awaits", LAST, 2, -1),))
        self.refuses((("awaits", LAST + 1, 2, -1),))
        self.refuses((("awaits", 50, 0, -1),))
        self.refuses((("awaits", 50, 3, -1),))
        self.refuses((("awaits", 50, 3, 0),))

    def test_awaits_with_other(self):
        self.lets_by((("awaits", 21, 2, 3),))
        self.refuses((("awaits", 20, 2, 3),))
        self.refuses((("awaits", 19, 2, 3),))
        self.lets_by((("awaits", 11, 2, 0),))
        self.refuses((("awaits", 10, 2, 0),))
        for other in (1, 2, 6, 9, 10, 11, -2, -10, 10 ** 40):
            self.refuses((("awaits", 90, 2, other),))

    def test_news_rise(self):
        one, other = ("dies", 30, 2, -1), ("dies", 30, 3, -1)
        self.lets_by((one, other))
        self.refuses((other, one))
        self.refuses((one, one))
        self.lets_by((("cuts", 30, 2, -1), ("dies", 20, 2, -1)))
        self.refuses((("dies", 20, 2, -1), ("cuts", 30, 2, -1)))
        self.refuses((("dies", 20, 2, -1), ("dies", 30, 2, -1), ("dies", 25, 2, -1)))
        self.lets_by((("awaits", 30, 2, -1), ("awaits", 30, 2, 0), ("awaits", 30, 2, 3)))
        self.refuses((("awaits", 30, 2, 3), ("awaits", 30, 2, 0)))

    def test_truths_are_no_numbers(self):
        for word in PLAIN_WORDS:
            self.refuses(((word, True, 0, -1),))
            self.refuses(((word, 50, True, -1),))
            self.refuses(((word, 50, False, -1),))
        self.refuses((("awaits", 50, True, -1),))
        self.refuses((("awaits", 50, 1, False),))
        self.refuses((("awaits", True, 1, -1),))
        self.lets_by((("awaits", 50, 1, 0),))
        self.lets_by((("awaits", 1, 1, -1),))
        self.refuses(as_truths((("awaits", 1, 1, 0),)))

    def test_forms(self):
        news = ("dies", 30, 2, -1)
        self.refuses([news])
        self.refuses((list(news),))
        self.refuses(listed((news,)))
        self.refuses((news[:3],))
        self.refuses((news + (-1,),))
        self.refuses((news, ()))
        self.refuses(news)
        for at in range(4):
            for other in (None, "", "2", (), (2,), [2], {}):
                self.refuses((news[:at] + (other,) + news[at + 1:],))
                self.refuses((news, ("dies", 31, 2, -1)[:at] + (other,) + news[at + 1:]))
        awaits = ("awaits", 30, 2, 0)
        for at in range(1, 4):
            for other in (None, "", "2", (), (2,), [2], {}):
                self.refuses((awaits[:at] + (other,) + awaits[at + 1:],))

    def test_anything_else(self):
        for thing in ODD_THINGS:
            self.refuses(thing)
            self.refuses((thing,))
            self.refuses((("dies", 30, 2, -1), thing))

    def test_sixty_one_folk(self):
        self.lets_by((("dies", 60, 60, -1),), row_of(61))
        self.refuses((("dies", 59, 60, -1),), row_of(61))
        self.refuses((("dies", 90, 61, -1),), row_of(61))

    def test_all_words_in_one_book(self):
        self.lets_by(tuple((word, 30, 2, -1) for word in WORDS))


class Dead(unittest.TestCase):
    def test_by_day(self):
        book = (("dies", 30, 2, -1),)
        self.assertEqual([is_dead(book, day, 2) for day in (10, 29, 30, 31, LAST)], [False, False, True, True, True])
        self.assertIs(is_dead(book, 29, 2), False)
        self.assertIs(is_dead(book, 30, 2), True)

    def test_of_that_folk_alone(self):
        book = (("dies", 30, 2, -1),)
        self.assertIs(is_dead(book, 90, 3), False)
        self.assertIs(is_dead(book, 90, 0), False)

    def test_by_that_word_alone(self):
        for word in ("cuts", "leaves", "returns", "awaits"):
            self.assertIs(is_dead(((word, 30, 2, -1),), 90, 2), False)

    def test_no_return_from_death(self):
        book = (("dies", 30, 2, -1), ("returns", 40, 2, -1))
        self.assertIs(is_dead(book, 50, 2), True)

    def test_two_deaths(self):
        book = (("dies", 30, 2, -1), ("dies", 40, 2, -1))
        self.assertEqual([is_dead(book, day, 2) for day in (29, 30, 39, 40)], [False, True, True, True])

    def test_no_news(self):
        self.assertIs(is_dead((), 50, 0), False)
        self.assertIs(is_out((), 50, 0), False)
        self.assertEqual(cut_from((), 50, 0), -1)

    def test_ahead_of_their_own_day(self):
        book = (("cuts", 40, 5, -1), ("dies", 40, 5, -1), ("leaves", 40, 5, -1))
        self.assertIs(is_dead(book, 39, 5), False)
        self.assertIs(is_out(book, 39, 5), False)
        self.assertEqual(cut_from(book, 39, 5), -1)


class Out(unittest.TestCase):
    def outs(self, book, days):
        told = [is_out(book, day, 2) for day in days]
        self.assertTrue(all(type(truth) is bool for truth in told))
        return told

    def test_by_leaves_and_by_cuts(self):
        for word in ("leaves", "cuts"):
            self.assertEqual(self.outs(((word, 30, 2, -1),), (10, 29, 30, 31)), [False, False, True, True])
            self.assertIs(is_out(((word, 30, 2, -1),), 50, 3), False)
        for word in ("dies", "returns", "awaits"):
            self.assertEqual(self.outs(((word, 30, 2, -1),), (29, 30, 31)), [False] * 3)

    def test_a_return_on_that_day(self):
        for word in ("leaves", "cuts"):
            book = tuple(sorted(((word, 30, 2, -1), ("returns", 30, 2, -1))))
            self.assertEqual(self.outs(book, (29, 30, 31)), [False, False, False])

    def test_a_return_ahead(self):
        for word in ("leaves", "cuts"):
            book = tuple(sorted(((word, 30, 2, -1), ("returns", 29, 2, -1))))
            self.assertEqual(self.outs(book, (28, 29, 30, 31)), [False, False, True, True])

    def test_a_return_behind(self):
        for word in ("leaves", "cuts"):
            book = tuple(sorted(((word, 30, 2, -1), ("returns", 32, 2, -1))))
            self.assertEqual(self.outs(book, (29, 30, 31, 32, 33)), [False, True, True, False, False])

    def test_a_return_of_another(self):
        book = (("leaves", 30, 2, -1), ("returns", 32, 3, -1))
        self.assertEqual(self.outs(book, (32, 33)), [True, True])

    def test_the_greatest_return_counts(self):
        book = (("leaves", 30, 2, -1), ("returns", 20, 2, -1), ("returns", 40, 2, -1))
        self.assertEqual(self.outs(book, (29, 30, 39, 40)), [False, True, True, False])
        book = (("leaves", 30, 2, -1), ("leaves", 50, 2, -1), ("returns", 20, 2, -1), ("returns", 40, 2, -1))
        self.assertEqual(self.outs(book, (39, 40, 49, 50, LAST)), [True, False, False, True, True])

    def test_both_words(self):
        book = (("cuts", 30, 2, -1), ("leaves", 40, 2, -1), ("returns", 35, 2, -1))
        self.assertEqual(self.outs(book, (29, 30, 34, 35, 39, 40)), [False, True, True, False, False, True])


class CutFrom(unittest.TestCase):
    def cuts(self, book, days):
        return [cut_from(book, day, 2) for day in days]

    def test_one_cut(self):
        self.assertEqual(self.cuts((("cuts", 30, 2, -1),), (10, 29, 30, 31, LAST)), [-1, -1, 30, 30, 30])
        self.assertEqual(cut_from((("cuts", 30, 2, -1),), 50, 3), -1)

    def test_cut_on_day_0(self):
        self.assertEqual(cut_from((("cuts", 0, 0, -1),), 0, 0), 0)
        self.assertEqual(cut_from((("cuts", 0, 0, -1), ("returns", 0, 0, -1)), 0, 0), -1)

    def test_the_least_of_several(self):
        book = (("cuts", 30, 2, -1), ("cuts", 40, 2, -1), ("cuts", 50, 2, -1))
        self.assertEqual(self.cuts(book, (29, 30, 40, 60)), [-1, 30, 30, 30])

    def test_returns(self):
        book = (("cuts", 30, 2, -1), ("cuts", 40, 2, -1), ("cuts", 50, 2, -1), ("returns", 40, 2, -1))
        self.assertEqual(self.cuts(book, (29, 30, 39, 40, 49, 50, 51)), [-1, 30, 30, -1, -1, 50, 50])
        book = (("cuts", 30, 2, -1), ("returns", 29, 2, -1))
        self.assertEqual(self.cuts(book, (29, 30)), [-1, 30])
        book = (("cuts", 30, 2, -1), ("cuts", 40, 2, -1), ("returns", 30, 2, -1), ("returns", 35, 3, -1))
        self.assertEqual(self.cuts(book, (30, 39, 40)), [-1, -1, 40])

    def test_leaves_is_no_cut(self):
        for word in ("leaves", "dies", "returns", "awaits"):
            self.assertEqual(self.cuts(((word, 30, 2, -1),), (30, 31)), [-1, -1])


if __name__ == "__main__":
    unittest.main()
