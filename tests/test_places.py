"""Point [12]: which papers of a place are let by."""

import unittest

from tests import slow
from tests.makers import FAMILY, ODD_THINGS, as_truths, changed, ladder, listed, some_cases
from thronewalk.places import right_place

ALIKE = (0, "alike", 0, "lines")
FIRST = (0, "first", 0, "lines")
ONLY = (0, "only", 0, "lines")


class RightPlace(unittest.TestCase):
    def says(self, who, thing, row=ALIKE, day=90, book=(), house=FAMILY):
        told = right_place(house, book, row, day, who, thing)
        self.assertIs(type(told), bool)
        return told

    def test_places_of_the_family(self):
        self.assertTrue(self.says(0, ((0,), ())))
        self.assertTrue(self.says(2, ((0, 2), (0,))))
        self.assertTrue(self.says(7, ((0, 2, 5, 7), (0, 2, 5))))
        self.assertTrue(self.says(8, ((0, 2, 8), (0, 2, 5, 7))))
        self.assertTrue(self.says(3, ((0, 3), (0, 2, 5, 7, 8))))
        self.assertTrue(self.says(9, ((0, 4, 9), (0, 2, 3, 4, 5, 6, 7, 8))))
        self.assertTrue(self.says(2, ((0, 2), (0, 3, 4, 6, 7, 8, 9)), FIRST))
        self.assertTrue(self.says(7, ((0, 3, 6, 7), (0, 3, 6, 8)), FIRST))
        self.assertTrue(self.says(8, ((0, 3, 8), (0, 2, 3, 6)), ONLY))

    def test_the_line(self):
        ahead = (0, 2, 5, 7, 8)
        self.assertTrue(self.says(3, ((0, 3), ahead)))
        for line in ((), (3,), (0,), (0, 2), (0, 0, 3), (0, 2, 3), (0, 3, 6), (1, 3), (0, 5), (0, -7), (0, 10)):
            self.assertFalse(self.says(3, (line, ahead)))
        self.assertFalse(self.says(3, ([0, 3], ahead)))
        self.assertFalse(self.says(3, ((0, 3), ahead), day=19))
        self.assertFalse(self.says(0, ((0,), ()), (5, "alike", 0, "lines"), 39))
        self.assertFalse(self.says(5, ((5,), ()), (5, "alike", 0, "lines"), 39))
        self.assertTrue(self.says(5, ((5,), ()), (5, "alike", 0, "lines"), 40))

    def test_the_place_of_another(self):
        self.assertFalse(self.says(3, ((0, 2), (0,))))
        self.assertFalse(self.says(2, ((0, 3), (0, 2, 5, 7, 8))))
        self.assertFalse(self.says(2, ((0,), ())))
        self.assertFalse(self.says(0, ((0, 2), (0,))))

    def test_another_line_to_the_same_folk(self):
        for ahead in slow.subsets(range(len(FAMILY))):
            self.assertFalse(self.says(8, ((0, 3, 8), ahead)))
            self.assertFalse(self.says(7, ((0, 3, 6, 7), ahead)))
            self.assertFalse(self.says(8, ((0, 2, 8), ahead), FIRST))
            self.assertFalse(self.says(7, ((0, 2, 5, 7), ahead), FIRST))

    def test_ahead_rises(self):
        for ahead in ((0, 5, 2, 7, 8), (2, 0, 5, 7, 8), (0, 2, 5, 8, 7), (0, 2, 2, 5, 7, 8), (0, 0, 2, 5, 7, 8)):
            self.assertFalse(self.says(3, ((0, 3), ahead)))
        self.assertFalse(self.says(3, ((0, 3), [0, 2, 5, 7, 8])))

    def test_ahead_has_the_line_but_who(self):
        self.assertFalse(self.says(3, ((0, 3), (2, 5, 7, 8))))
        self.assertFalse(self.says(3, ((0, 3), (0, 2, 3, 5, 7, 8))))
        self.assertFalse(self.says(7, ((0, 2, 5, 7), (0, 2))))
        self.assertFalse(self.says(7, ((0, 2, 5, 7), (0, 5))))
        self.assertFalse(self.says(0, ((0,), (0,))))

    def test_steps_ranked_ahead_are_in_ahead(self):
        self.assertFalse(self.says(3, ((0, 3), (0,))))
        self.assertFalse(self.says(4, ((0, 4), (0, 2, 5, 7, 8))))
        self.assertTrue(self.says(4, ((0, 4), (0, 2, 3, 5, 6, 7, 8))))
        self.assertFalse(self.says(8, ((0, 2, 8), (0, 2))))

    def test_steps_ranked_ahead_are_not_in_the_line(self):
        # The son of 0 and of 0's daughter ranks ahead of his mother, but comes behind her in the line.
        house = ((0, -1, -1, 1, 1), (10, 0, -1, 0, 1), (20, 0, 1, 1, 1), (30, 2, -1, 0, 1))
        self.assertFalse(self.says(3, ((0, 1, 2, 3), (0, 1, 2)), FIRST, house=house))
        self.assertFalse(self.says(2, ((0, 1, 2), (0, 1)), FIRST, house=house))
        self.assertTrue(self.says(3, ((0, 2, 3), (0, 2)), FIRST, house=house))
        self.assertTrue(self.says(3, ((0, 1, 2, 3), (0, 1, 2)), ALIKE, house=house))

    def test_steps_from_ahead_are_in_ahead(self):
        self.assertFalse(self.says(3, ((0, 3), (0, 2))))
        self.assertFalse(self.says(3, ((0, 3), (0, 2, 5, 8))))
        self.assertFalse(self.says(3, ((0, 3), (0, 2, 5, 7))))
        self.assertFalse(self.says(3, ((0, 3), (0, 2, 7, 8))))

    def test_steps_from_ahead_are_not_in_the_line(self):
        house = ((0, -1, -1, 1, 1), (10, 0, -1, 0, 1), (20, 0, 1, 1, 1), (30, 2, -1, 0, 1))
        self.assertFalse(self.says(3, ((0, 2, 3), (0, 1, 2)), ALIKE, house=house))
        self.assertFalse(self.says(2, ((0, 2), (0, 1)), ALIKE, house=house))

    def test_all_in_ahead_are_led_to(self):
        self.assertFalse(self.says(3, ((0, 3), (0, 1, 2, 5, 7, 8))))
        self.assertFalse(self.says(3, ((0, 3), (0, 2, 4, 5, 7, 8, 9))))
        self.assertFalse(self.says(3, ((0, 3), (0, 2, 5, 7, 8, 9))))
        self.assertFalse(self.says(3, ((0, 3), (0, 2, 5, 6, 7, 8))))
        self.assertFalse(self.says(2, ((0, 2), (0, 9))))
        self.assertFalse(self.says(2, ((0, 2), (0, 5, 7))))
        self.assertFalse(self.says(2, ((0, 2), (0, 3, 6, 7, 8))))
        self.assertFalse(self.says(0, ((0,), (2, 3, 4, 5, 6, 7, 8, 9))))
        self.assertFalse(self.says(3, ((0, 3), (0, 2, 5, 7, 8, 10))))
        self.assertFalse(self.says(3, ((0, 3), (-1, 0, 2, 5, 7, 8))))
        self.assertFalse(self.says(3, ((0, 3), (0, 2, 5, 7, 8, 10 ** 40))))
        self.assertFalse(self.says(3, ((0, 3), (0, 2, 5, 7, 8)), day=59))
        self.assertTrue(self.says(3, ((0, 3), (0, 2, 5)), day=59))

    def test_forms(self):
        right = ((0, 3), (0, 2, 5, 7, 8))
        self.assertFalse(self.says(3, right[:1]))
        self.assertFalse(self.says(3, right + ((),)))
        self.assertFalse(self.says(3, list(right)))
        self.assertFalse(self.says(3, listed(right)))
        self.assertFalse(self.says(3, right[::-1]))
        self.assertFalse(self.says(3, {0: right}))
        self.assertFalse(self.says(3, ((0, 3), {0: 2})))

    def test_truths_are_no_numbers(self):
        house = ((0, -1, -1, 1, 1), (1, 0, -1, 0, 1), (2, -1, 1, 1, 1), (3, 0, -1, 1, 1))
        right = ((0, 3), (0, 1, 2))
        self.assertTrue(self.says(3, right, house=house))
        self.assertFalse(self.says(3, as_truths(right), house=house))
        self.assertFalse(self.says(3, ((False, 3), (0, 1, 2)), house=house))
        self.assertFalse(self.says(3, ((0, 3), (False, 1, 2)), house=house))
        self.assertFalse(self.says(3, ((0, 3), (0, True, 2)), house=house))
        self.assertFalse(self.says(1, ((0, True), (0,)), house=house))

    def test_anything_else(self):
        for thing in ODD_THINGS:
            self.assertFalse(self.says(3, thing))
            self.assertFalse(self.says(3, (thing, (0, 2, 5, 7, 8))))
            self.assertFalse(self.says(3, ((0, 3), thing)))
            self.assertFalse(self.says(3, ((0, 3), (0, 2, 5, 7, 8, thing))))
            self.assertFalse(self.says(3, ((0, thing), (0, 2, 5, 7, 8))))

    def test_who_is_not_reached(self):
        for ahead in ((), (0,), (0, 2, 3)):
            self.assertFalse(self.says(1, ((1,), ahead)))
            self.assertFalse(self.says(1, ((0, 1), ahead)))

    def test_every_paper_of_small_houses(self):
        found = 0
        for house, book, row, day in some_cases(31, 60, 6):
            for line in slow.lines(house, book, row, day):
                for ahead in slow.subsets(range(len(house))):
                    right = slow.is_place(house, book, row, day, line[-1], (line, ahead))
                    self.assertEqual(self.says(line[-1], (line, ahead), row, day, book, house), right)
                    found += right
        self.assertGreater(found, 100)

    def test_papers_with_a_part_changed(self):
        for who, right, row in ((3, ((0, 3), (0, 2, 5, 7, 8)), ALIKE), (7, ((0, 3, 6, 7), (0, 3, 6, 8)), FIRST)):
            for thing in changed(right):
                self.assertEqual(self.says(who, thing, row), repr(thing) == repr(right))

    def test_very_many_lines(self):
        for many in (60, 61):
            house = ladder(many)
            last = many - 1
            self.assertTrue(self.says(last, (tuple(range(many)), tuple(range(last))), house=house))
            self.assertFalse(self.says(last, (tuple(range(last - 1)) + (last,), tuple(range(last))), house=house))
            self.assertTrue(self.says(1, ((0, 1), (0,) + tuple(range(2, many))), FIRST, house=house))


if __name__ == "__main__":
    unittest.main()
