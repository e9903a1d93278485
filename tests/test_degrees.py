"""Point [14]: degrees."""

import unittest

from tests import slow
from tests.makers import FAMILY, is_plain, ladder, row_of, some_cases
from thronewalk.degrees import degrees
from thronewalk.folk import born_by

ALIKE = (0, "alike", 0, "near")
ONLY = (0, "only", 0, "near")
WED = (0, "alike", 1, "near")


class Degrees(unittest.TestCase):
    def test_only_down(self):
        self.assertEqual(degrees(FAMILY, (), ALIKE, 90, 0), (0, -1, 1, 1, 1, 2, 2, 3, 2, 2))

    def test_up_and_then_down(self):
        self.assertEqual(degrees(FAMILY, (), ALIKE, 90, 7), (3, -1, 2, 2, 4, 1, 1, 0, 3, 5))
        self.assertEqual(degrees(FAMILY, (), ALIKE, 90, 9), (2, -1, 3, 3, 1, 4, 4, 5, 4, 0))
        self.assertEqual(degrees(FAMILY, (), ALIKE, 90, 8), (2, -1, 1, 1, 3, 2, 2, 3, 0, 4))

    def test_only_up(self):
        house = ladder(5)
        self.assertEqual(degrees(house, (), ALIKE, 4, 4), (2, 2, 1, 1, 0))
        self.assertEqual(degrees(FAMILY, (), ALIKE, 20, 4), (1, -1, 2, 2, 0))

    def test_never_up_behind_down(self):
        # Down from 1 to the child 4, and up from it to 3, would be two goings only.
        house = ((0, -1, -1, 1, 1), (5, 0, -1, 1, 1), (5, 0, -1, 1, 1), (6, 2, -1, 0, 1), (9, 1, 3, 1, 1))
        self.assertEqual(degrees(house, (), ALIKE, 50, 1), (1, 0, 2, 3, 1))

    def test_two_ways_of_unlike_lengths(self):
        house = ((0, -1, -1, 1, 1), (10, 0, -1, 0, 1), (20, 0, 1, 1, 1), (30, 2, -1, 1, 1))
        self.assertEqual(degrees(house, (), ALIKE, 90, 0), (0, 1, 1, 2))
        self.assertEqual(degrees(house, (), ALIKE, 90, 2), (1, 1, 0, 1))
        self.assertEqual(degrees(house, (), ALIKE, 90, 3), (2, 2, 1, 0))
        self.assertEqual(degrees(house, (), ONLY, 90, 3), (2, 3, 1, 0))

    def test_a_parent_who_is_not_reached_is_no_way(self):
        house = ((0, -1, -1, 1, 1), (0, -1, -1, 0, 1), (5, 0, 1, 1, 1), (6, -1, 1, 1, 1), (7, 2, -1, 1, 1))
        self.assertEqual(degrees(house, (), ALIKE, 50, 2), (1, -1, 0, -1, 1))

    def test_from_one_who_is_not_reached(self):
        self.assertEqual(degrees(FAMILY, (), ALIKE, 90, 1), (-1,) * 10)
        self.assertEqual(degrees(FAMILY, (), ALIKE, 20, 1), (-1,) * 5)
        self.assertEqual(degrees(FAMILY, (), WED, 90, 4), (-1,) * 10)
        self.assertEqual(degrees(FAMILY, (), (5, "alike", 0, "near"), 39, 2), (-1,) * 5)
        self.assertEqual(degrees(row_of(61), (), ALIKE, 60, 60), (-1,) * 61)

    def test_to_one_who_is_not_reached(self):
        self.assertEqual(degrees(FAMILY, (), WED, 90, 3), (1, -1, 2, 0, -1, 3, 1, 2, 1, -1))
        self.assertEqual(degrees(row_of(3), (), ALIKE, 60, 0), (0, -1, -1))

    def test_a_cut_bars_the_going(self):
        book = (("cuts", 60, 2, -1),)
        self.assertEqual(degrees(FAMILY, book, ALIKE, 90, 8), (2, -1, 3, 1, 3, 4, 2, 3, 0, 4))

    def test_none_goes_above_the_founder(self):
        self.assertEqual(degrees(FAMILY, (), (3, "alike", 0, "near"), 90, 6), (-1, -1, -1, 1, -1, -1, 0, 1, 2, -1))

    def test_all_born_by_the_day(self):
        self.assertEqual(degrees(FAMILY, (), ALIKE, 0, 0), (0, -1))
        self.assertEqual(degrees(FAMILY, (), ALIKE, 39, 2), (1, -1, 0, 2, 2))

    def test_very_many_lines(self):
        house = ladder(61)
        self.assertEqual(degrees(house, (), ALIKE, 60, 0), tuple((who + 1) // 2 for who in range(61)))
        self.assertEqual(degrees(house, (), ALIKE, 60, 60), tuple((61 - who) // 2 for who in range(61)))

    def test_as_the_words_say(self):
        for house, book, row, day in some_cases(51, 150, 10):
            for who in range(born_by(house, day)):
                told = degrees(house, book, row, day, who)
                self.assertTrue(is_plain(told))
                right = [slow.degree(house, book, row, day, who, other) for other in range(born_by(house, day))]
                self.assertEqual(list(told), right)


if __name__ == "__main__":
    unittest.main()
