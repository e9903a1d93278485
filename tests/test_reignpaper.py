"""Point [19]: papers of reigns, looked over."""

import unittest

from tests import slow_thrones
from tests.by_hand import (
    BARE_BOOK, BARE_HOUSE, BARE_PAPER, BARE_RULE, BOOK, CHILD_WAITS, DAUGHTER_SITS, FOUNDER_SITS, HOUSE, NOBODY, OF_3,
    OF_SON, PAPER, RULE, SON_SITS)
from tests.makers import LAST, ODD_THINGS, as_truths, changed, listed
from thronewalk.news import check_book
from thronewalk.reignpaper import right_reigns
from thronewalk.rules import check_rule


class Looking(unittest.TestCase):
    def says(self, thing, until=400, book=BOOK, rule=RULE, house=HOUSE):
        check_book(house, book)
        check_rule(house, rule)
        told = right_reigns(house, book, rule, until, thing)
        self.assertIs(type(told), bool)
        return told


class Days(Looking):
    def test_ahead_of_the_beginning(self):
        for until in (0, 9):
            self.assertTrue(self.says((), until))
            self.assertFalse(self.says(PAPER[:1], until))
        self.assertFalse(self.says((), 10))

    def test_on_the_beginning_and_behind_it(self):
        for until in (10, 11, 30, 59):
            self.assertTrue(self.says(PAPER[:1], until))
            self.assertFalse(self.says(PAPER[:2], until))
            self.assertFalse(self.says((), until))

    def test_up_to_each_day(self):
        for until, many in ((60, 2), (69, 2), (70, 3), (71, 3), (349, 3), (350, 4), (351, 4), (LAST, 4)):
            for rows in range(5):
                self.assertEqual(self.says(PAPER[:rows], until), rows == many)

    def test_a_row_too_few(self):
        for at in range(4):
            self.assertFalse(self.says(PAPER[:at] + PAPER[at + 1:]))

    def test_a_row_too_many(self):
        self.assertFalse(self.says(PAPER + (DAUGHTER_SITS,)))
        self.assertFalse(self.says(PAPER + ((400, 2) + DAUGHTER_SITS[2:],)))
        for at in range(5):
            for row in PAPER:
                self.assertFalse(self.says(PAPER[:at] + (row,) + PAPER[at:]))
        # On days of folk on which somebody sits on there is no row.
        for day in (30, 40, 50):
            self.assertFalse(self.says(PAPER[:1] + ((day,) + FOUNDER_SITS[1:],) + PAPER[1:]))

    def test_a_row_on_a_day_on_which_nothing_befalls(self):
        self.assertFalse(self.says(PAPER[:3] + ((71,) + CHILD_WAITS[1:],) + PAPER[3:]))
        self.assertFalse(self.says(PAPER[:1] + ((61,) + SON_SITS[1:],) + PAPER[2:]))

    def test_days_that_do_not_rise(self):
        self.assertFalse(self.says((PAPER[1], PAPER[0]) + PAPER[2:]))
        self.assertFalse(self.says(PAPER[::-1]))
        self.assertFalse(self.says(PAPER[:2] + (PAPER[3], PAPER[2])))

    def test_300_days_behind_an_awaits(self):
        for day in (348, 349, 351, 352):
            self.assertFalse(self.says(PAPER[:3] + ((day,) + DAUGHTER_SITS[1:],)))

    def test_a_day_of_a_folk_while_nobody_sits(self):
        house = HOUSE + ((80, -1, -1, 1, 1), (80, -1, -1, 0, 1))
        again = (80, -1, "waits", 0, (("lines", (1, 6), (1, 3)),))
        self.assertTrue(self.says(PAPER[:3] + (again, PAPER[3]), house=house))
        self.assertFalse(self.says(PAPER, house=house))
        self.assertFalse(self.says(PAPER[:3] + (again, again, PAPER[3]), house=house))
        wrong = (80, -1, "waits", 0, (("lines", (1, 4), (1, 3)),))
        self.assertFalse(self.says(PAPER[:3] + (wrong, PAPER[3]), house=house))

    def test_a_day_of_news_while_nobody_sits(self):
        for news in (("leaves", 90, 2, -1), ("returns", 90, 2, -1), ("cuts", 90, 0, -1)):
            book = tuple(sorted(BOOK + (news,)))
            again = (90,) + CHILD_WAITS[1:]
            told = self.says(PAPER[:3] + (again,), 349, book)
            self.assertTrue(told)
            self.assertFalse(self.says(PAPER[:3], 349, book))

    def test_the_child_is_born(self):
        for man, first in ((1, 4), (0, 2)):
            house = HOUSE + ((200, 1, 0, man, 1),)
            line = ("lines", (1, first), (1, 3))
            row = (200, first, "sits", (line,), ())
            self.assertTrue(self.says(PAPER[:3] + (row,), house=house))
            self.assertFalse(self.says(PAPER, house=house))
            self.assertFalse(self.says(PAPER[:3] + (row, PAPER[3]), house=house))

    def test_its_mother_dies(self):
        book = BOOK[:1] + (("dies", 60, 1, -1), ("dies", 70, 3, -1), ("dies", 75, 0, -1))
        row = (75,) + DAUGHTER_SITS[1:]
        self.assertTrue(self.says(PAPER[:3] + (row,), book=book))
        self.assertFalse(self.says(PAPER, book=book))

    def test_a_day_that_is_a_truth(self):
        house = ((1, -1, -1, 1, 1),)
        rule = ((0, "alike", 0, "lines"),)
        row = (1, 0, "sits", (("lines", (0,), ()),), ())
        self.assertTrue(self.says((row,), 5, (), rule, house))
        self.assertFalse(self.says(((True,) + row[1:],), 5, (), rule, house))
        self.assertFalse(self.says(((1, False) + row[2:],), 5, (), rule, house))


class Rows(Looking):
    def with_row(self, at, *row):
        return PAPER[:at] + (row,) + PAPER[at + 1:]

    def test_another_one_sits(self):
        for who in (-1, 0, 1, 2, 4, 5, -2, 10 ** 40):
            self.assertFalse(self.says(self.with_row(1, 60, who, "sits", OF_SON, (OF_SON,))))
        of_daughter = (("lines", (1, 2), (1, 3)),)
        self.assertFalse(self.says(self.with_row(1, 60, 2, "sits", of_daughter, (of_daughter,))))

    def test_each_word_in_place_of_another(self):
        for at, right in enumerate(PAPER):
            for word in ("sits", "nobody", "waits", "", "Sits", None, 0):
                row = right[:2] + (word,) + right[3:]
                self.assertEqual(self.says(self.with_row(at, *row)), word == right[2])

    def test_nobody_in_place_of_sits(self):
        nobody = (("nobody", ((1, -1), (2, 1), (3, 1))),)
        self.assertFalse(self.says(self.with_row(1, 60, -1, "nobody", nobody, (nobody,))[:2], 60))
        self.assertFalse(self.says(self.with_row(1, 60, -1, "nobody", OF_SON, (OF_SON,))[:2], 60))
        self.assertFalse(self.says(self.with_row(3, 350, -1, "nobody", nobody, ())))

    def test_waits_in_place_of_sits(self):
        row = (60, -1, "waits", 0, (("lines", (1, 4), (1, 3)),))
        self.assertFalse(self.says((FOUNDER_SITS, row), 60))
        self.assertFalse(self.says((FOUNDER_SITS, row[:4] + (OF_SON,)), 60))

    def test_sits_in_place_of_waits(self):
        of_daughter = (("lines", (1, 2), (1, 3)),)
        of_child = (("lines", (1, 4), (1, 3)),)
        for who in (2, 4):
            for others in ((), (of_daughter,), (of_child,), ((("lines", (1, 2), (1, 3, 4)),),)):
                for paper in (of_daughter, of_child):
                    self.assertFalse(self.says(PAPER[:2] + ((70, who, "sits", paper, others),), 70))

    def test_waits_for_somebody(self):
        for who in (0, 2, 4, -2):
            self.assertFalse(self.says(self.with_row(2, 70, who, "waits", *CHILD_WAITS[3:])))

    def test_waits_where_none_is_open(self):
        self.assertFalse(self.says(self.with_row(3, 350, -1, "waits", 0, CHILD_WAITS[4])))
        for place in (-1, 1, 2, 3, 10 ** 40, None, "0", False, (0,), -3):
            self.assertFalse(self.says(self.with_row(2, 70, -1, "waits", place, CHILD_WAITS[4])))

    def test_waits_with_another_paper(self):
        for paper in (OF_SON, (), (("lines", (1, 4), (1,)),), (("lines", (1, 4), (1, 2, 3)),), CHILD_WAITS[4] * 2, None):
            self.assertFalse(self.says(self.with_row(2, 70, -1, "waits", 0, paper)))

    def test_one_of_two_that_are_open(self):
        book = (("awaits", 50, 0, -1), ("awaits", 50, 0, 1)) + BOOK[1:]
        sits = (60, 3, "sits", OF_SON, (OF_SON, OF_SON))
        self.assertTrue(self.says((FOUNDER_SITS, sits), 69, book))
        self.assertTrue(self.says((FOUNDER_SITS, sits, CHILD_WAITS[:3] + (1, CHILD_WAITS[4])), 70, book))
        self.assertFalse(self.says((FOUNDER_SITS, sits, CHILD_WAITS), 70, book))

    def test_either_of_two_that_would_be_first(self):
        book = (("awaits", 45, 0, 1), ("awaits", 50, 0, 1)) + BOOK[1:]
        sits = (60, 3, "sits", OF_SON, (OF_SON, OF_SON))
        for place in (0, 1):
            self.assertTrue(self.says((FOUNDER_SITS, sits, CHILD_WAITS[:3] + (place, CHILD_WAITS[4])), 70, book))
        rows = (FOUNDER_SITS, sits, CHILD_WAITS, (345,) + CHILD_WAITS[1:3] + (1, CHILD_WAITS[4]), DAUGHTER_SITS)
        self.assertTrue(self.says(rows, 400, book))
        self.assertFalse(self.says(rows[:3] + ((345,) + CHILD_WAITS[1:],) + rows[4:], 400, book))

    def test_last_is_whoever_sat_last(self):
        # By nearness: of the founder's children the one who is nearer to who sat last.
        house = ((0, -1, -1, 1, 1), (5, 0, -1, 1, 1), (6, 0, -1, 1, 1), (9, 1, -1, 1, 1), (9, 2, -1, 1, 1))
        rule = ((0, "alike", 0, "near"),)
        book = (("dies", 20, 0, -1), ("dies", 21, 1, -1), ("leaves", 22, 3, -1))
        reach = (("near", ((0, -1), (1, 0), (2, 0), (3, 1), (4, 2))),)
        first = (0, 0, "sits", (("near", ((0, -1),)),), ())
        rows = (first, (20, 1, "sits", reach, ()), (21, 3, "sits", reach, ()), (22, 2, "sits", reach, ()))
        self.assertTrue(self.says(rows, 30, book, rule, house))
        self.assertFalse(self.says(rows[:2] + ((21, 2, "sits", reach, ()),), 21, book, rule, house))


class Nobody(Looking):
    def says_bare(self, rows, until):
        return self.says(rows, until, BARE_BOOK, BARE_RULE, BARE_HOUSE)

    def test_a_row_for_each_day_while_nobody_sits(self):
        for until, many in ((10, 1), (19, 1), (20, 2), (49, 2), (50, 3), (60, 4), (80, 5), (84, 5), (85, 6)):
            self.assertTrue(self.says_bare(BARE_PAPER[:many], until))
        for until, many in ((319, 6), (320, 7), (359, 7), (360, 8), (LAST, 8)):
            self.assertTrue(self.says_bare(BARE_PAPER[:many], until))

    def test_one_too_few(self):
        for at in range(8):
            self.assertFalse(self.says_bare(BARE_PAPER[:at] + BARE_PAPER[at + 1:], 400))

    def test_others_of_nobody(self):
        for others in ((), (NOBODY, NOBODY), NOBODY, None, [NOBODY], (None,), (OF_3,)):
            rows = BARE_PAPER[:1] + ((20, -1, "nobody", NOBODY, others),)
            self.assertFalse(self.says_bare(rows, 30))

    def test_nobody_in_place_of_waits(self):
        for others in ((), (NOBODY,), BARE_PAPER[7][3:4]):
            rows = BARE_PAPER[:3] + ((60, -1, "nobody", NOBODY, others),)
            self.assertFalse(self.says_bare(rows, 60))

    def test_sits_in_place_of_nobody(self):
        for who in (0, 1, 2):
            for paper in (NOBODY, (("age", ((1, -1),)),)):
                self.assertFalse(self.says_bare(((10, who, "sits", paper, ()),), 10))

    def test_each_word_in_place_of_another(self):
        for at, right in enumerate(BARE_PAPER):
            for word in ("sits", "nobody", "waits"):
                rows = BARE_PAPER[:at] + (right[:2] + (word,) + right[3:],) + BARE_PAPER[at + 1:]
                self.assertEqual(self.says_bare(rows, 400), word == right[2])

    def test_nobody_is_no_folk(self):
        for who in (-1, 0, 1, -2, None, False, True, "", ()):
            for word in ("sits", "nobody"):
                told = self.says_bare(((10, who, word, NOBODY, ()),), 10)
                self.assertEqual(told, (who, word) == (-1, "nobody"))

    def test_folk_who_are_not_born_yet(self):
        for who in (2, 3):
            row = (60, who, "sits", OF_3, (OF_3,))
            self.assertFalse(self.says_bare(BARE_PAPER[:3] + (row,), 60))


class Others(Looking):
    """Two that are awaited, the one of them reached: the papers in their houses differ."""

    BOOK = (("awaits", 50, 0, -1), ("awaits", 50, 0, 1), ("dies", 60, 1, -1))
    RULE = ((1, "alike", 1, "age"),)
    PLAIN = (("age", ((1, -1), (2, 1), (3, 1))),)
    LONGER = (("age", ((1, -1), (2, 1), (3, 1), (4, 1))),)

    def says_of(self, others, paper=PLAIN):
        rows = ((10, 1, "sits", (("age", ((1, -1),)),), ()), (60, 2, "sits", paper, others))
        return self.says(rows, 100, self.BOOK, self.RULE)

    def test_in_turn(self):
        self.assertTrue(self.says_of((self.PLAIN, self.LONGER)))
        self.assertFalse(self.says_of((self.LONGER, self.PLAIN)))
        self.assertFalse(self.says_of((self.PLAIN, self.PLAIN)))
        self.assertFalse(self.says_of((self.LONGER, self.LONGER)))

    def test_too_few_and_too_many(self):
        self.assertFalse(self.says_of(()))
        self.assertFalse(self.says_of((self.PLAIN,)))
        self.assertFalse(self.says_of((self.LONGER,)))
        self.assertFalse(self.says_of((self.PLAIN, self.LONGER, self.LONGER)))
        self.assertFalse(self.says_of((self.PLAIN, self.LONGER, ())))

    def test_the_paper_itself(self):
        self.assertFalse(self.says_of((self.PLAIN, self.LONGER), self.LONGER))
        self.assertFalse(self.says_of((self.PLAIN, self.LONGER), ()))

    def test_anything_else(self):
        for thing in ODD_THINGS:
            self.assertFalse(self.says_of(thing))
            self.assertFalse(self.says_of((self.PLAIN, thing)))
            self.assertFalse(self.says_of((thing, self.LONGER)))
            self.assertFalse(self.says_of((self.PLAIN, self.LONGER, thing)))
        self.assertFalse(self.says_of([self.PLAIN, self.LONGER]))


class AnythingElse(Looking):
    def test_the_paper_is_right(self):
        self.assertTrue(self.says(PAPER))
        self.assertTrue(slow_thrones.is_reign_paper(HOUSE, BOOK, RULE, 400, PAPER))

    def test_odd_things(self):
        for thing in ODD_THINGS:
            self.assertFalse(self.says(thing))
            self.assertFalse(self.says((thing,)))
            self.assertFalse(self.says(PAPER + (thing,)))
            for at, row in enumerate(PAPER):
                self.assertFalse(self.says(PAPER[:at] + (thing,) + PAPER[at + 1:]))
                self.assertFalse(self.says(PAPER[:at] + (row + (thing,),) + PAPER[at + 1:]))
        for thing in ODD_THINGS:
            if repr(thing) != "()":
                self.assertFalse(self.says(thing, 9))

    def test_lists_and_truths(self):
        self.assertFalse(self.says(list(PAPER)))
        self.assertFalse(self.says(listed(PAPER)))
        self.assertFalse(self.says(as_truths(PAPER)))
        self.assertFalse(self.says({0: PAPER}))
        self.assertFalse(self.says([], 9))
        for at, row in enumerate(PAPER):
            self.assertFalse(self.says(PAPER[:at] + (list(row),) + PAPER[at + 1:]))
            self.assertFalse(self.says(PAPER[:at] + (row[:4],) + PAPER[at + 1:]))

    def test_bent_at_one_place(self):
        right = 0
        for thing in changed(PAPER):
            told = self.says(thing)
            self.assertEqual(told, slow_thrones.is_reign_paper(HOUSE, BOOK, RULE, 400, thing))
            right += told
        self.assertEqual(right, sum(repr(thing) == repr(PAPER) for thing in changed(PAPER)))


if __name__ == "__main__":
    unittest.main()
