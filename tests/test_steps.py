"""Points [8] and [9]: steps and lines."""

import unittest

from tests import slow
from tests.makers import FAMILY, LAST, ODD_THINGS, all_rows, as_truths, changed, is_plain, ladder, listed, row_of, some_cases
from thronewalk.steps import is_line, lines_many, steps_of

ALIKE = (0, "alike", 0, "lines")
FIRST = (0, "first", 0, "lines")
ONLY = (0, "only", 0, "lines")
WED = (0, "alike", 1, "lines")

# The founder has a daughter, a son, a daughter and a son.
FOUR = (
    (0, -1, -1, 1, 1),
    (5, 0, -1, 0, 1),
    (6, 0, -1, 1, 0),
    (7, 0, -1, 0, 0),
    (8, 0, -1, 1, 1),
)


class Steps(unittest.TestCase):
    def test_rank(self):
        self.assertEqual(steps_of(FOUR, (), ALIKE, 50, 0), (1, 2, 3, 4))
        self.assertEqual(steps_of(FOUR, (), FIRST, 50, 0), (2, 4, 1, 3))
        self.assertEqual(steps_of(FOUR, (), ONLY, 50, 0), (1, 2, 3, 4))

    def test_wed(self):
        self.assertEqual(steps_of(FOUR, (), (0, "alike", 1, "lines"), 50, 0), (1, 4))
        self.assertEqual(steps_of(FOUR, (), (0, "first", 1, "lines"), 50, 0), (4, 1))
        self.assertEqual(steps_of(FOUR, (), (0, "only", 1, "lines"), 50, 0), (1, 4))

    def test_days(self):
        told = [steps_of(FOUR, (), ALIKE, day, 0) for day in (0, 4, 5, 6, 7, 8)]
        self.assertEqual(told, [(), (), (1,), (1, 2), (1, 2, 3), (1, 2, 3, 4)])

    def test_only_through_men(self):
        self.assertEqual(steps_of(FAMILY, (), ONLY, 90, 1), ())
        self.assertEqual(steps_of(FAMILY, (), ONLY, 90, 2), ())
        self.assertEqual(steps_of(FAMILY, (), ONLY, 90, 3), (6, 8))
        self.assertEqual(steps_of(FAMILY, (), ALIKE, 90, 2), (5, 8))
        self.assertEqual(steps_of(FAMILY, (), FIRST, 90, 3), (8, 6))

    def test_cut(self):
        def with_cut(cut, day):
            return steps_of(FOUR, (("cuts", cut, 0, -1),), ALIKE, day, 0)

        self.assertEqual(with_cut(5, 50), ())
        self.assertEqual(with_cut(6, 50), (1,))
        self.assertEqual(with_cut(7, 50), (1, 2))
        self.assertEqual(with_cut(8, 50), (1, 2, 3))
        self.assertEqual(with_cut(9, 50), (1, 2, 3, 4))
        self.assertEqual(with_cut(9, 8), (1, 2, 3, 4))
        self.assertEqual(with_cut(6, 5), (1,))
        self.assertEqual(with_cut(0, 50), ())

    def test_cut_and_return(self):
        book = (("cuts", 6, 0, -1), ("returns", 20, 0, -1))
        self.assertEqual(steps_of(FOUR, book, ALIKE, 19, 0), (1,))
        self.assertEqual(steps_of(FOUR, book, ALIKE, 20, 0), (1, 2, 3, 4))
        book = (("cuts", 5, 0, -1), ("cuts", 7, 0, -1), ("returns", 6, 0, -1))
        self.assertEqual(steps_of(FOUR, book, ALIKE, 5, 0), ())
        self.assertEqual(steps_of(FOUR, book, ALIKE, 6, 0), (1, 2))
        self.assertEqual(steps_of(FOUR, book, ALIKE, 9, 0), (1, 2))

    def test_only_a_cut_of_the_parent_bars(self):
        for news in (("cuts", 1, 1, -1), ("dies", 1, 0, -1), ("leaves", 1, 0, -1), ("cuts", 8, 4, -1)):
            self.assertEqual(steps_of(FOUR, (news,), ALIKE, 50, 0), (1, 2, 3, 4))

    def test_the_founder_is_not_asked(self):
        for founder in (0, 3, 9):
            self.assertEqual(steps_of(FAMILY, (), (founder, "alike", 0, "age"), 90, 2), (5, 8))

    def test_as_the_words_say(self):
        for house, book, row, day in some_cases(1, 150, 9):
            for who in range(len(house)):
                told = steps_of(house, book, row, day, who)
                self.assertTrue(is_plain(told))
                self.assertEqual(list(told), slow.steps(house, book, row, day, who))

    def test_sixty_one_folk(self):
        self.assertEqual(steps_of(ladder(61), (), ALIKE, 60, 58), (59, 60))
        self.assertEqual(steps_of(ladder(61), (), FIRST, 60, 58), (60, 59))


class IsLine(unittest.TestCase):
    def says(self, thing, row=ALIKE, day=90, book=(), house=FAMILY):
        told = is_line(house, book, row, day, thing)
        self.assertIs(type(told), bool)
        return told

    def test_the_founder_alone(self):
        self.assertTrue(self.says((0,)))
        self.assertFalse(self.says((1,)))
        self.assertTrue(self.says((3,), (3, "alike", 0, "lines")))
        self.assertFalse(self.says((0,), (3, "alike", 0, "lines")))
        self.assertFalse(self.says((0, 3), (3, "alike", 0, "lines")))

    def test_the_founders_day(self):
        row = (2, "alike", 0, "lines")
        self.assertFalse(self.says((2,), row, 9))
        self.assertTrue(self.says((2,), row, 10))
        self.assertFalse(self.says((), row, 9))
        self.assertFalse(self.says((), row, 10))

    def test_longer_ones(self):
        for line in ((0, 2), (0, 2, 5, 7), (0, 3, 6, 7), (0, 2, 8), (0, 3, 8), (0, 4, 9)):
            self.assertTrue(self.says(line))
        for line in ((0, 0), (0, 1), (0, 5), (0, 2, 6), (0, 2, 5, 7, 7), (0, 3, 2), (2, 5), (0, 2, 0), (0, 2, 2, 5)):
            self.assertFalse(self.says(line))

    def test_each_clause_of_a_step(self):
        line = (0, 3, 6, 7)
        self.assertTrue(self.says(line))
        self.assertTrue(self.says(line, day=60))
        self.assertFalse(self.says(line, day=59))
        self.assertFalse(self.says(line, row=ONLY))
        self.assertTrue(self.says((0, 3, 6), row=ONLY))
        self.assertTrue(self.says((0, 4), row=ALIKE))
        self.assertFalse(self.says((0, 4), row=WED))
        self.assertFalse(self.says((0, 4, 9), row=WED))
        self.assertFalse(self.says(line, book=(("cuts", 60, 6, -1),)))
        self.assertTrue(self.says(line, book=(("cuts", 61, 6, -1),)))
        self.assertFalse(self.says(line, book=(("cuts", 40, 3, -1),)))
        self.assertTrue(self.says((0, 3, 8), book=(("cuts", 61, 3, -1),)))

    def test_the_dead_lead_on(self):
        book = (("dies", 50, 3, -1), ("leaves", 50, 6, -1))
        self.assertTrue(self.says((0, 3, 6, 7), book=book))

    def test_anything_else(self):
        for thing in ODD_THINGS:
            self.assertFalse(self.says(thing))
            self.assertFalse(self.says((0, thing)))
            self.assertFalse(self.says((0, 2, thing)))
        self.assertFalse(self.says((0, 10)))
        self.assertFalse(self.says((0, -1)))
        self.assertFalse(self.says((0, 2, -5)))
        self.assertFalse(self.says(listed((0, 2, 5))))
        self.assertFalse(self.says((-10,)))

    def test_truths_are_no_numbers(self):
        house = ((0, -1, -1, 1, 1), (1, 0, -1, 1, 1))
        self.assertTrue(self.says((0, 1), house=house))
        self.assertFalse(self.says((False,), house=house))
        self.assertFalse(self.says((False, 1), house=house))
        self.assertFalse(self.says((0, True), house=house))
        self.assertFalse(self.says(as_truths((0, 1)), house=house))
        self.assertFalse(self.says((True,), row=(1, "alike", 0, "lines"), house=house))

    def test_as_the_words_say(self):
        for house, book, row, day in some_cases(2, 60, 7):
            right = slow.lines(house, book, row, day)
            for line in right:
                self.assertTrue(self.says(line, row, day, book, house))
            for line in right[:6]:
                for other in changed(line):
                    self.assertEqual(self.says(other, row, day, book, house), self.is_one_of(other, right))

    def is_one_of(self, thing, right):
        return type(thing) is tuple and all(type(part) is int for part in thing) and thing in right

    def test_sixty_one_folk(self):
        self.assertTrue(self.says(tuple(range(61)), house=ladder(61)))
        self.assertFalse(self.says(tuple(range(61)), house=ladder(60)))


class LinesMany(unittest.TestCase):
    def test_of_the_family(self):
        self.assertEqual([lines_many(FAMILY, (), ALIKE, 90, who) for who in range(10)], [1, 0, 1, 1, 1, 1, 1, 2, 2, 1])
        self.assertEqual([lines_many(FAMILY, (), ONLY, 90, who) for who in range(10)], [1, 0, 1, 1, 1, 0, 1, 0, 1, 1])
        self.assertEqual([lines_many(FAMILY, (), WED, 90, who) for who in range(10)], [1, 0, 1, 1, 0, 1, 1, 2, 2, 0])

    def test_of_a_later_founder(self):
        row = (3, "alike", 0, "lines")
        self.assertEqual([lines_many(FAMILY, (), row, 90, who) for who in range(10)], [0, 0, 0, 1, 0, 0, 1, 1, 1, 0])

    def test_none_where_the_founder_is_not_born(self):
        row = (5, "alike", 0, "lines")
        self.assertEqual([lines_many(FAMILY, (), row, 39, who) for who in range(7)], [0] * 7)
        self.assertEqual([lines_many(FAMILY, (), row, 40, who) for who in range(7)], [0, 0, 0, 0, 0, 1, 0])

    def test_cuts(self):
        book = (("cuts", 60, 6, -1),)
        self.assertEqual(lines_many(FAMILY, book, ALIKE, 90, 7), 1)
        self.assertEqual(lines_many(FAMILY, book, ALIKE, 90, 8), 2)
        self.assertEqual(lines_many(FAMILY, (("cuts", 40, 3, -1),), ALIKE, 90, 8), 1)

    def test_very_many(self):
        many = [1, 1]
        while len(many) < 61:
            many.append(many[-1] + many[-2])
        house = ladder(61)
        for who in (0, 1, 2, 3, 20, 44, 59, 60):
            self.assertEqual(lines_many(house, (), ALIKE, LAST, who), many[who])
            self.assertEqual(lines_many(house, (), FIRST, LAST, who), many[who])
        self.assertEqual(many[45], 1836311903)

    def test_none_at_all(self):
        self.assertEqual(lines_many(row_of(60), (), ALIKE, LAST, 59), 0)
        self.assertEqual(lines_many(row_of(60), (), (59, "alike", 0, "lines"), LAST, 59), 1)

    def test_as_the_words_say(self):
        for house, book, row, day in some_cases(3, 100, 9):
            right = slow.lines(house, book, row, day)
            for who in range(len(house)):
                told = lines_many(house, book, row, day, who)
                self.assertIs(type(told), int)
                self.assertEqual(told, len([line for line in right if line[-1] == who]))

    def test_ways_make_no_difference(self):
        for row in all_rows(0):
            for way in ("age", "near"):
                self.assertEqual(lines_many(FAMILY, (), row, 90, 8), lines_many(FAMILY, (), row[:3] + (way,), 90, 8))


if __name__ == "__main__":
    unittest.main()
