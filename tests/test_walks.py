"""Point [11]: the walk and the least lines; [13], where least_line is refused."""

import unittest

from tests import slow
from tests.makers import FAMILY, is_plain, ladder, row_of, some_cases
from thronewalk.errors import NoLine
from thronewalk.steps import is_line
from thronewalk.walks import least_line, walk

ALIKE = (0, "alike", 0, "lines")
FIRST = (0, "first", 0, "lines")
ONLY = (0, "only", 0, "lines")
WED = (0, "alike", 1, "lines")


class Walk(unittest.TestCase):
    def test_of_the_family(self):
        self.assertEqual(walk(FAMILY, (), ALIKE, 90), (0, 2, 5, 7, 8, 3, 6, 4, 9))
        self.assertEqual(walk(FAMILY, (), FIRST, 90), (0, 3, 8, 6, 7, 4, 9, 2, 5))
        self.assertEqual(walk(FAMILY, (), ONLY, 90), (0, 2, 3, 6, 8, 4, 9))
        self.assertEqual(walk(FAMILY, (), WED, 90), (0, 2, 5, 7, 8, 3, 6))
        self.assertEqual(walk(FAMILY, (), (3, "first", 1, "lines"), 90), (3, 8, 6, 7))

    def test_by_day(self):
        self.assertEqual(walk(FAMILY, (), ALIKE, 0), (0,))
        self.assertEqual(walk(FAMILY, (), ALIKE, 19), (0, 2))
        self.assertEqual(walk(FAMILY, (), ALIKE, 59), (0, 2, 5, 3, 6, 4))

    def test_the_founder_is_not_born(self):
        row = (5, "alike", 0, "lines")
        self.assertEqual(walk(FAMILY, (), row, 39), ())
        self.assertEqual(walk(FAMILY, (), row, 40), (5,))

    def test_the_way_is_not_asked(self):
        for way in ("age", "near"):
            self.assertEqual(walk(FAMILY, (), FIRST[:3] + (way,), 90), walk(FAMILY, (), FIRST, 90))

    def test_cuts_and_deaths(self):
        self.assertEqual(walk(FAMILY, (("cuts", 60, 2, -1),), ALIKE, 90), (0, 2, 5, 7, 3, 6, 8, 4, 9))
        self.assertEqual(walk(FAMILY, (("cuts", 60, 5, -1),), ALIKE, 90), (0, 2, 5, 8, 3, 6, 7, 4, 9))
        book = (("dies", 60, 2, -1), ("leaves", 60, 0, -1))
        self.assertEqual(walk(FAMILY, book, ALIKE, 90), walk(FAMILY, (), ALIKE, 90))

    def test_very_many_lines(self):
        for many in (60, 61):
            house = ladder(many)
            self.assertEqual(walk(house, (), ALIKE, 99), tuple(range(many)))
            men = tuple(who for who in range(many) if who % 2 == 0)
            women = tuple(who for who in range(many) if who % 2 == 1)
            self.assertEqual(walk(house, (), FIRST, 99), men + women[::-1])

    def test_as_the_words_say(self):
        for house, book, row, day in some_cases(21, 300, 10):
            told = walk(house, book, row, day)
            self.assertTrue(is_plain(told))
            self.assertEqual(told, slow.plain_walk(house, book, row, day))
            self.assertEqual(walk(house, book, row, day), told)


class LeastLine(unittest.TestCase):
    def test_several_lines_lead_to_them(self):
        self.assertEqual(least_line(FAMILY, (), ALIKE, 90, 7), (0, 2, 5, 7))
        self.assertEqual(least_line(FAMILY, (), FIRST, 90, 7), (0, 3, 6, 7))
        self.assertEqual(least_line(FAMILY, (), ALIKE, 90, 8), (0, 2, 8))
        self.assertEqual(least_line(FAMILY, (), FIRST, 90, 8), (0, 3, 8))
        self.assertEqual(least_line(FAMILY, (), ONLY, 90, 8), (0, 3, 8))
        self.assertEqual(least_line(FAMILY, (), FIRST, 90, 0), (0,))

    def test_the_longer_line_may_be_the_lesser(self):
        house = ((0, -1, -1, 1, 1), (10, 0, -1, 0, 1), (20, 0, 1, 1, 1))
        self.assertEqual(least_line(house, (), ALIKE, 90, 2), (0, 1, 2))
        self.assertEqual(least_line(house, (), FIRST, 90, 2), (0, 2))
        self.assertEqual(least_line(house, (), ONLY, 90, 2), (0, 2))

    def test_cuts(self):
        self.assertEqual(least_line(FAMILY, (("cuts", 60, 2, -1),), ALIKE, 90, 8), (0, 3, 8))
        self.assertEqual(least_line(FAMILY, (("cuts", 61, 2, -1),), ALIKE, 90, 8), (0, 2, 8))

    def test_very_many_lines(self):
        house = ladder(61)
        self.assertEqual(least_line(house, (), ALIKE, 99, 60), tuple(range(61)))
        self.assertEqual(least_line(house, (), FIRST, 99, 59), tuple(range(0, 59, 2)) + (59,))
        self.assertEqual(least_line(house, (), FIRST, 99, 1), (0, 1))

    def test_as_the_words_say(self):
        for house, book, row, day in some_cases(22, 200, 9):
            right = slow.least_lines(house, book, row, day)
            for who in right:
                told = least_line(house, book, row, day, who)
                self.assertTrue(is_plain(told))
                self.assertEqual(told, right[who])
                self.assertIs(is_line(house, book, row, day, told), True)

    def test_who_is_not_reached(self):
        cases = ((FAMILY, (), ALIKE, 90, 1), (FAMILY, (), WED, 90, 4), (FAMILY, (), ONLY, 90, 5),
                 (FAMILY, (("cuts", 70, 4, -1),), ALIKE, 90, 9), (FAMILY, (), (5, "alike", 0, "lines"), 39, 0),
                 (FAMILY, (), (3, "alike", 0, "lines"), 90, 0), (row_of(61), (), ALIKE, 90, 60))
        for house, book, row, day, who in cases:
            before = walk(house, book, row, day)
            for _ in range(2):
                with self.assertRaises(NoLine):
                    least_line(house, book, row, day, who)
            self.assertEqual(walk(house, book, row, day), before)

    def test_the_same_asked_behind_a_refusal(self):
        self.assertEqual(least_line(FAMILY, (), ALIKE, 90, 7), (0, 2, 5, 7))
        with self.assertRaises(NoLine):
            least_line(FAMILY, (), ALIKE, 90, 1)
        self.assertEqual(least_line(FAMILY, (), ALIKE, 90, 7), (0, 2, 5, 7))


if __name__ == "__main__":
    unittest.main()
