"""Point [15]: orders of rows and rules."""

import unittest

from tests import slow_thrones
from tests.makers import FAMILY, all_rules, is_plain, ladder, row_of, some_thrones
from thronewalk.folk import born_by
from thronewalk.orders import first_of, order_of

LINES = (0, "alike", 0, "lines")
AGE = (0, "alike", 0, "age")
NEAR = (0, "alike", 0, "near")


class OneRow(unittest.TestCase):
    def order(self, row, last=0, book=(), day=90, house=FAMILY):
        told = order_of(house, book, (row,), day, last)
        self.assertTrue(is_plain(told))
        self.assertEqual(first_of(house, book, (row,), day, last), told[0] if told else -1)
        return told

    def test_by_lines(self):
        self.assertEqual(self.order(LINES), (0, 2, 5, 7, 8, 3, 6, 4, 9))
        self.assertEqual(self.order((0, "first", 0, "lines")), (0, 3, 8, 6, 7, 4, 9, 2, 5))
        self.assertEqual(self.order((0, "alike", 1, "lines")), (0, 2, 5, 7, 8, 3, 6))
        self.assertEqual(self.order(LINES, book=(("dies", 80, 2, -1), ("leaves", 80, 5, -1))), (0, 7, 8, 3, 6, 4, 9))

    def test_by_age(self):
        self.assertEqual(self.order(AGE), (0, 2, 3, 4, 5, 6, 7, 8, 9))
        self.assertEqual(self.order((0, "first", 0, "age")), (0, 2, 3, 4, 5, 6, 7, 8, 9))
        self.assertEqual(self.order((3, "first", 0, "age")), (3, 6, 7, 8))
        self.assertEqual(self.order(AGE, book=(("dies", 80, 0, -1), ("dies", 91, 2, -1))), (2, 3, 4, 5, 6, 7, 8, 9))

    def test_by_nearness(self):
        self.assertEqual(self.order(NEAR, 7), (7, 5, 6, 2, 3, 0, 8, 4, 9))
        self.assertEqual(self.order(NEAR, 9), (9, 4, 0, 2, 3, 5, 6, 8, 7))
        self.assertEqual(self.order(NEAR, 0), (0, 2, 3, 4, 5, 6, 8, 9, 7))

    def test_nearness_to_one_who_is_dead(self):
        self.assertEqual(self.order(NEAR, 7, (("dies", 70, 7, -1),)), (5, 6, 2, 3, 0, 8, 4, 9))

    def test_like_degrees_go_by_numbers(self):
        house = ((0, -1, -1, 1, 1), (5, 0, -1, 0, 1), (6, 0, -1, 1, 1), (6, 0, -1, 0, 1), (9, 0, -1, 1, 1))
        self.assertEqual(self.order((0, "first", 0, "near"), 0, house=house), (0, 1, 2, 3, 4))
        self.assertEqual(self.order(NEAR, 3, house=house), (3, 0, 1, 2, 4))

    def test_last_who_is_not_reached(self):
        self.assertEqual(self.order(NEAR, 1), (0, 2, 3, 4, 5, 6, 7, 8, 9))
        self.assertEqual(self.order((3, "alike", 0, "near"), 5), (3, 6, 7, 8))
        self.assertEqual(self.order((0, "alike", 1, "near"), 9), (0, 2, 3, 5, 6, 7, 8))

    def test_all_degrees_are_minus_1_or_none(self):
        # All who are reached come from the founder, so goings lead from each of them to each.
        house = ((0, -1, -1, 1, 1), (5, 0, -1, 1, 1), (5, 0, -1, 1, 1), (9, 1, -1, 1, 1))
        self.assertEqual(self.order((1, "alike", 0, "near"), 3, house=house), (3, 1))
        self.assertEqual(self.order((1, "alike", 0, "near"), 2, house=house), (1, 3))
        self.assertEqual(self.order((1, "alike", 0, "near"), 0, house=house), (1, 3))

    def test_men_only(self):
        self.assertEqual(self.order((0, "only", 0, "lines")), (0, 3, 8, 4))
        self.assertEqual(self.order((0, "only", 0, "age")), (0, 3, 4, 8))
        self.assertEqual(self.order((0, "only", 0, "near"), 8), (8, 3, 0, 4))
        self.assertEqual(self.order((1, "only", 0, "age")), ())

    def test_a_founder_whose_day_is_above_the_day(self):
        for way in ("lines", "age", "near"):
            row = (5, "alike", 0, way)
            self.assertEqual(self.order(row, 2, day=39), ())
            self.assertEqual(self.order(row, 2, day=40), (5,))
            self.assertEqual(self.order(row, 2, day=60), (5, 7))

    def test_only_who_is_born(self):
        self.assertEqual(self.order(LINES, day=59), (0, 2, 5, 3, 6, 4))
        self.assertEqual(self.order(AGE, day=19), (0, 2))
        self.assertEqual(self.order(NEAR, 2, day=40), (2, 0, 5, 3, 4, 6))

    def test_nobody_stands(self):
        house = ((0, -1, -1, 1, 1), (5, -1, -1, 1, 1))
        for way in ("lines", "age", "near"):
            self.assertEqual(self.order((0, "alike", 0, way), 1, (("dies", 7, 0, -1),), 7, house), ())
            self.assertEqual(self.order((0, "alike", 0, way), 1, (("dies", 7, 0, -1),), 6, house), (0,))
            self.assertEqual(self.order((0, "alike", 0, way), 1, (("cuts", 7, 0, -1),), 9, house), ())

    def test_who_returns_stands_again(self):
        book = (("leaves", 30, 2, -1), ("returns", 50, 2, -1))
        self.assertEqual(self.order(AGE, book=book, day=49), (0, 3, 4, 5, 6))
        self.assertEqual(self.order(AGE, book=book, day=50), (0, 2, 3, 4, 5, 6))

    def test_sixty_one_folk(self):
        self.assertEqual(self.order(AGE, house=ladder(61)), tuple(range(61)))
        self.assertEqual(self.order(LINES, house=ladder(61)), tuple(range(61)))
        near = tuple(range(60, -1, -1))
        told = self.order(NEAR, 60, house=ladder(61))
        self.assertEqual(sorted(told), sorted(near))
        self.assertEqual(told[:5], (60, 58, 59, 56, 57))
        self.assertEqual(self.order(AGE, house=row_of(61)), (0,))


class MoreRows(unittest.TestCase):
    def order(self, rule, last=0, book=(), day=90, house=FAMILY):
        told = order_of(house, book, rule, day, last)
        self.assertTrue(is_plain(told))
        self.assertEqual(first_of(house, book, rule, day, last), told[0] if told else -1)
        return told

    def test_two_rows(self):
        self.assertEqual(self.order(((3, "alike", 0, "lines"), AGE)), (3, 6, 7, 8, 0, 2, 4, 5, 9))
        self.assertEqual(self.order(((0, "only", 0, "lines"), LINES)), (0, 3, 8, 4, 2, 5, 7, 6, 9))
        self.assertEqual(self.order(((0, "only", 0, "age"), NEAR), 7), (0, 3, 4, 8, 7, 5, 6, 2, 9))

    def test_three_rows(self):
        rule = ((4, "alike", 0, "age"), (2, "only", 0, "lines"), (2, "alike", 0, "near"))
        self.assertEqual(self.order(rule, 5), (4, 9, 5, 2, 7, 8))
        rule = ((4, "alike", 0, "age"), (1, "alike", 0, "age"), LINES)
        self.assertEqual(self.order(rule), (4, 9, 1, 2, 3, 5, 6, 7, 8, 0))

    def test_who_stands_by_two_rows_is_there_once(self):
        for rule in ((AGE, LINES), (LINES, AGE), (AGE, AGE), (NEAR, LINES, AGE)):
            told = self.order(rule, 7)
            self.assertEqual(len(told), 9)
            self.assertEqual(told, self.order(rule[:1], 7))

    def test_nobody_by_the_first_row(self):
        rule = ((9, "only", 0, "lines"), (8, "alike", 0, "age"))
        self.assertEqual(self.order(rule), (8,))
        self.assertEqual(self.order(rule, book=(("dies", 60, 8, -1),)), ())
        self.assertEqual(first_of(FAMILY, (("dies", 60, 8, -1),), rule, 90, 0), -1)
        self.assertEqual(first_of(FAMILY, (), rule, 90, 0), 8)

    def test_a_founder_of_a_later_row_born_earlier(self):
        rule = ((5, "alike", 0, "lines"), (1, "alike", 0, "age"))
        self.assertEqual(self.order(rule, 2, day=39), (1, 2, 3))
        self.assertEqual(self.order(rule, 2, day=40), (5, 1, 2, 3, 6))

    def test_by_age_and_lines_last_changes_nothing(self):
        for rule in ((AGE,), (LINES,), (LINES, (1, "first", 0, "age"))):
            self.assertEqual(len({self.order(rule, last) for last in range(10)}), 1)


class AsTheWordsSay(unittest.TestCase):
    def test_small_houses(self):
        for house, book, rule, day in some_thrones(71, 250, 9):
            for last in range(born_by(house, day)):
                told = order_of(house, book, rule, day, last)
                self.assertEqual(told, slow_thrones.order_of(house, book, rule, day, last))
                self.assertEqual(first_of(house, book, rule, day, last), (told + (-1,))[0])

    def test_the_family_by_each_row(self):
        for founder in range(len(FAMILY)):
            for rule in all_rules(founder):
                for day in (10, 40, 70):
                    for last in range(born_by(FAMILY, day)):
                        told = order_of(FAMILY, (), rule, day, last)
                        self.assertEqual(told, slow_thrones.order_of(FAMILY, (), rule, day, last))


if __name__ == "__main__":
    unittest.main()
