"""Points [12] (place_of) and [13]."""

import unittest

from tests import slow
from tests.makers import FAMILY, is_plain, ladder, row_of, some_cases
from thronewalk.errors import NoLine
from thronewalk.places import right_place
from thronewalk.placing import comes_ahead, parting, place_of
from thronewalk.walks import least_line

ALIKE = (0, "alike", 0, "lines")
FIRST = (0, "first", 0, "lines")
WED = (0, "alike", 1, "lines")
LATER = (5, "alike", 0, "lines")


class PlaceOf(unittest.TestCase):
    def test_of_the_family(self):
        self.assertEqual(place_of(FAMILY, (), ALIKE, 90, 0), ((0,), ()))
        self.assertEqual(place_of(FAMILY, (), ALIKE, 90, 8), ((0, 2, 8), (0, 2, 5, 7)))
        self.assertEqual(place_of(FAMILY, (), ALIKE, 90, 3), ((0, 3), (0, 2, 5, 7, 8)))
        self.assertEqual(place_of(FAMILY, (), FIRST, 90, 2), ((0, 2), (0, 3, 4, 6, 7, 8, 9)))
        self.assertEqual(place_of(FAMILY, (), FIRST, 90, 7), ((0, 3, 6, 7), (0, 3, 6, 8)))

    def test_it_is_let_by(self):
        cases = some_cases(41, 150, 9) + [(ladder(61), (), ALIKE, 99), (ladder(61), (), FIRST, 99)]
        for house, book, row, day in cases:
            for who in [folk for folk in range(len(house)) if self.is_reached(house, book, row, day, folk)]:
                told = place_of(house, book, row, day, who)
                self.assertTrue(is_plain(told))
                self.assertIs(right_place(house, book, row, day, who, told), True)
                self.assertEqual(place_of(house, book, row, day, who), told)

    def is_reached(self, house, book, row, day, who):
        try:
            least_line(house, book, row, day, who)
        except NoLine:
            return False
        return True

    def test_refused(self):
        for args in ((FAMILY, (), ALIKE, 90, 1), (FAMILY, (), WED, 90, 9), (FAMILY, (), LATER, 39, 0),
                     (FAMILY, (("cuts", 70, 4, -1),), ALIKE, 90, 9), (row_of(61), (), ALIKE, 90, 60)):
            for _ in range(2):
                with self.assertRaises(NoLine):
                    place_of(*args)
        self.assertEqual(place_of(FAMILY, (), ALIKE, 90, 2), ((0, 2), (0,)))


class Parting(unittest.TestCase):
    def test_of_the_family(self):
        self.assertEqual(parting(FAMILY, (), ALIKE, 90, 7, 8), (2, 5, 8))
        self.assertEqual(parting(FAMILY, (), ALIKE, 90, 8, 7), (2, 8, 5))
        self.assertEqual(parting(FAMILY, (), ALIKE, 90, 7, 6), (0, 2, 3))
        self.assertEqual(parting(FAMILY, (), FIRST, 90, 7, 8), (3, 6, 8))
        self.assertEqual(parting(FAMILY, (), FIRST, 90, 7, 5), (0, 3, 2))
        self.assertEqual(parting(FAMILY, (), ALIKE, 90, 3, 4), (0, 3, 4))

    def test_a_line_that_is_the_beginning_of_the_other(self):
        self.assertEqual(parting(FAMILY, (), ALIKE, 90, 2, 7), (2, -1, 5))
        self.assertEqual(parting(FAMILY, (), ALIKE, 90, 7, 2), (2, 5, -1))
        self.assertEqual(parting(FAMILY, (), ALIKE, 90, 0, 9), (0, -1, 4))
        self.assertEqual(parting(FAMILY, (), ALIKE, 90, 5, 7), (5, -1, 7))

    def test_very_many_lines(self):
        house = ladder(61)
        self.assertEqual(parting(house, (), FIRST, 99, 59, 60), (58, 59, 60))
        self.assertEqual(parting(house, (), FIRST, 99, 1, 60), (0, 1, 2))
        self.assertEqual(parting(house, (), ALIKE, 99, 60, 30), (30, 31, -1))

    def test_as_the_words_say(self):
        for house, book, row, day in some_cases(42, 100, 9):
            least = slow.least_lines(house, book, row, day)
            for one in least:
                for other in least:
                    if one != other:
                        told = parting(house, book, row, day, one, other)
                        self.assertTrue(is_plain(told))
                        self.look_over(told, least[one] + (-1,), least[other] + (-1,))

    def look_over(self, told, one, other):
        elder, first, second = told
        at = one.index(elder)
        self.assertEqual(one[:at + 1], other[:at + 1])
        self.assertEqual((one[at + 1], other[at + 1]), (first, second))
        self.assertNotEqual(first, second)


class ComesAhead(unittest.TestCase):
    def test_of_the_family(self):
        self.assertIs(comes_ahead(FAMILY, (), ALIKE, 90, 8, 3), True)
        self.assertIs(comes_ahead(FAMILY, (), ALIKE, 90, 3, 8), False)
        self.assertIs(comes_ahead(FAMILY, (), FIRST, 90, 8, 2), True)
        self.assertIs(comes_ahead(FAMILY, (), FIRST, 90, 3, 2), True)
        self.assertIs(comes_ahead(FAMILY, (), ALIKE, 90, 3, 2), False)
        self.assertIs(comes_ahead(FAMILY, (), ALIKE, 90, 7, 8), True)

    def test_a_line_that_is_the_beginning_of_the_other(self):
        self.assertIs(comes_ahead(FAMILY, (), ALIKE, 90, 2, 7), True)
        self.assertIs(comes_ahead(FAMILY, (), ALIKE, 90, 7, 2), False)

    def test_the_dead_keep_their_places(self):
        book = (("dies", 50, 2, -1), ("leaves", 50, 3, -1))
        self.assertIs(comes_ahead(FAMILY, book, ALIKE, 90, 2, 3), True)
        self.assertIs(comes_ahead(FAMILY, book, ALIKE, 90, 3, 2), False)

    def test_as_the_words_say(self):
        for house, book, row, day in some_cases(43, 100, 9):
            order = list(slow.least_lines(house, book, row, day))
            for one in order:
                for other in order:
                    if one != other:
                        told = comes_ahead(house, book, row, day, one, other)
                        self.assertIs(told, order.index(one) < order.index(other))


class Refused(unittest.TestCase):
    def test_in_either_place(self):
        cases = ((FAMILY, (), ALIKE, 90, 1, 0), (FAMILY, (), WED, 90, 4, 3), (FAMILY, (), WED, 90, 9, 0),
                 (FAMILY, (("cuts", 70, 4, -1),), ALIKE, 90, 9, 4), (row_of(61), (), ALIKE, 90, 60, 0))
        for house, book, row, day, lost, reached in cases:
            for ask in (parting, comes_ahead):
                with self.assertRaises(NoLine):
                    ask(house, book, row, day, lost, reached)
                with self.assertRaises(NoLine):
                    ask(house, book, row, day, reached, lost)

    def test_in_both_places(self):
        for ask in (parting, comes_ahead):
            with self.assertRaises(NoLine):
                ask(FAMILY, (), LATER, 39, 0, 2)
            with self.assertRaises(NoLine):
                ask(FAMILY, (), LATER, 60, 0, 2)

    def test_the_same_asked_behind_a_refusal(self):
        for ask, right in ((parting, (2, 5, 8)), (comes_ahead, True)):
            for _ in range(2):
                self.assertEqual(ask(FAMILY, (), ALIKE, 90, 7, 8), right)
                with self.assertRaises(NoLine):
                    ask(FAMILY, (), ALIKE, 90, 7, 1)


if __name__ == "__main__":
    unittest.main()
