"""Point [21]: who may have a child that counts."""

import unittest

from tests import slow_thrones
from tests.makers import FAMILY, ladder, some_thrones
from thronewalk.births import may_have
from thronewalk.folk import born_by
from thronewalk.news import check_book

ALIKE = (0, "alike", 0, "lines")
ONLY = (0, "only", 0, "lines")


class MayHave(unittest.TestCase):
    def parents(self, book=(), row=ALIKE, day=90, house=FAMILY):
        check_book(house, book)
        told = [may_have(house, book, row, day, who) for who in range(born_by(house, day))]
        self.assertTrue(all(type(truth) is bool for truth in told))
        return [who for who, truth in enumerate(told) if truth]

    def test_all_who_are_reached(self):
        for way in ("lines", "age", "near"):
            self.assertEqual(self.parents(row=(0, "alike", 0, way)), [0, 2, 3, 4, 5, 6, 7, 8, 9])
        self.assertEqual(self.parents(row=(0, "first", 0, "lines")), [0, 2, 3, 4, 5, 6, 7, 8, 9])
        self.assertEqual(self.parents(row=(0, "alike", 1, "lines")), [0, 2, 3, 5, 6, 7, 8])
        self.assertEqual(self.parents(day=20), [0, 2, 3, 4])

    def test_one_who_is_not_reached(self):
        self.assertIs(may_have(FAMILY, (), ALIKE, 90, 1), False)
        self.assertEqual(self.parents(row=(3, "alike", 0, "lines")), [3, 6, 7, 8])
        self.assertEqual(self.parents(row=(5, "alike", 0, "lines"), day=39), [])

    def test_no_man_where_men_is_only(self):
        self.assertEqual(self.parents(row=ONLY), [0, 3, 4, 8])
        self.assertEqual(self.parents(row=(2, "only", 0, "lines")), [])

    def test_one_who_is_cut(self):
        book = (("cuts", 80, 3, -1),)
        self.assertEqual([may_have(FAMILY, book, ALIKE, day, 3) for day in (79, 80, 81)], [True, False, False])
        book = (("cuts", 80, 3, -1), ("returns", 85, 3, -1))
        self.assertEqual([may_have(FAMILY, book, ALIKE, day, 3) for day in (79, 80, 84, 85)], [True, False, False, True])
        self.assertIs(may_have(FAMILY, (("cuts", 0, 0, -1),), ALIKE, 0, 0), False)

    def test_one_who_left(self):
        self.assertEqual(self.parents((("leaves", 80, 3, -1),)), [0, 2, 3, 4, 5, 6, 7, 8, 9])

    def test_one_who_is_dead(self):
        book = (("dies", 80, 3, -1),)
        self.assertEqual([may_have(FAMILY, book, ALIKE, day, 3) for day in (79, 80, 81)], [True, False, False])

    def test_dead_and_the_other_of_an_open_awaits(self):
        book = (("awaits", 75, 2, 3), ("dies", 80, 3, -1))
        days = (79, 80, 374, 375)
        self.assertEqual([may_have(FAMILY, book, ALIKE, day, 3) for day in days], [True, True, True, False])
        # Also where the mother isn't reached.
        book = (("awaits", 75, 1, 3), ("dies", 80, 3, -1))
        self.assertEqual([may_have(FAMILY, book, ALIKE, day, 3) for day in days], [True, True, True, False])
        # And where it was dead already on the day of the news.
        book = (("awaits", 85, 1, 3), ("dies", 80, 3, -1))
        told = [may_have(FAMILY, book, ALIKE, day, 3) for day in (84, 85, 384, 385)]
        self.assertEqual(told, [False, True, True, False])

    def test_dead_and_the_other_of_one_that_is_not_open(self):
        book = (("awaits", 75, 2, 3), ("dies", 80, 3, -1), ("dies", 85, 2, -1))
        self.assertEqual([may_have(FAMILY, book, ALIKE, day, 3) for day in (80, 84, 85)], [True, True, False])
        house = FAMILY + ((88, -1, 2, 1, 1),)
        book = book[:2]
        self.assertEqual([may_have(house, book, ALIKE, day, 3) for day in (80, 87, 88)], [True, True, False])

    def test_dead_and_the_other_of_an_awaits_of_somebody_else(self):
        book = (("awaits", 75, 2, 0), ("dies", 80, 3, -1))
        self.assertIs(may_have(FAMILY, book, ALIKE, 80, 3), False)
        book = (("awaits", 75, 2, -1), ("dies", 80, 3, -1))
        self.assertIs(may_have(FAMILY, book, ALIKE, 80, 3), False)

    def test_dead_and_awaited_and_cut(self):
        book = (("awaits", 75, 2, 3), ("cuts", 78, 3, -1), ("dies", 80, 3, -1))
        self.assertEqual([may_have(FAMILY, book, ALIKE, day, 3) for day in (77, 78, 80)], [True, False, False])

    def test_dead_and_awaited_and_not_reached(self):
        book = (("awaits", 75, 2, 4), ("dies", 80, 4, -1))
        self.assertIs(may_have(FAMILY, book, (0, "alike", 1, "lines"), 80, 4), False)
        self.assertIs(may_have(FAMILY, book, ALIKE, 80, 4), True)
        self.assertIs(may_have(FAMILY, book, ONLY, 80, 4), True)

    def test_the_mother_who_awaits_and_dies(self):
        book = (("awaits", 75, 2, 3), ("dies", 80, 2, -1))
        self.assertIs(may_have(FAMILY, book, ALIKE, 80, 2), False)

    def test_sixty_folk(self):
        self.assertEqual(self.parents(house=ladder(60)), list(range(60)))

    def test_as_the_words_say(self):
        awaited = 0
        for scale in (12, 300):
            for house, book, rule, day in some_thrones(181 + scale, 200, 8, scale):
                for row in rule:
                    for who in range(born_by(house, day)):
                        told = may_have(house, book, row, day, who)
                        self.assertIs(told, slow_thrones.may_have(house, book, row, day, who))
                        awaited += told and slow_thrones.dead(book, day, who)
        self.assertGreater(awaited, 10)


if __name__ == "__main__":
    unittest.main()
