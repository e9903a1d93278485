"""Points [9] (stands) and [10]: who is reached, and who stands."""

import unittest
from itertools import product

from tests import slow
from tests.makers import FAMILY, ODD_THINGS, all_rows, as_truths, changed, is_plain, ladder, listed, row_of, some_cases
from thronewalk.reach import reach_of, right_reach, stands

ALIKE = (0, "alike", 0, "lines")
FIRST = (0, "first", 0, "lines")
ONLY = (0, "only", 0, "lines")
WED = (0, "alike", 1, "lines")

REACH = ((0, -1), (2, 0), (3, 0), (4, 0), (5, 2), (6, 3), (7, 5), (8, 2), (9, 4))


class Stands(unittest.TestCase):
    def who_stand(self, book=(), row=ALIKE, day=90):
        told = [stands(FAMILY, book, row, day, who) for who in range(len(FAMILY))]
        self.assertTrue(all(type(truth) is bool for truth in told))
        return [who for who, truth in enumerate(told) if truth]

    def test_all_who_are_reached(self):
        self.assertEqual(self.who_stand(), [0, 2, 3, 4, 5, 6, 7, 8, 9])
        self.assertEqual(self.who_stand(row=FIRST), [0, 2, 3, 4, 5, 6, 7, 8, 9])
        self.assertEqual(self.who_stand(row=WED), [0, 2, 3, 5, 6, 7, 8])
        self.assertEqual(self.who_stand(row=(3, "alike", 0, "lines")), [3, 6, 7, 8])

    def test_only_men(self):
        self.assertEqual(self.who_stand(row=ONLY), [0, 3, 4, 8])
        self.assertEqual(self.who_stand(row=(2, "only", 0, "lines")), [])

    def test_the_dead_do_not(self):
        book = (("dies", 50, 3, -1),)
        self.assertIs(stands(FAMILY, book, ALIKE, 49, 3), True)
        self.assertIs(stands(FAMILY, book, ALIKE, 50, 3), False)
        self.assertEqual(self.who_stand(book), [0, 2, 4, 5, 6, 7, 8, 9])

    def test_who_is_out_does_not(self):
        for word in ("leaves", "cuts"):
            book = ((word, 65, 3, -1), ("returns", 80, 3, -1))
            told = [stands(FAMILY, book, ALIKE, day, 3) for day in (64, 65, 79, 80)]
            self.assertEqual(told, [True, False, False, True])
            self.assertEqual(self.who_stand(book, day=75), [0, 2, 4, 5, 6, 7, 8, 9])

    def test_who_is_born_behind_a_cut_does_not(self):
        self.assertEqual(self.who_stand((("cuts", 40, 2, -1),)), [0, 3, 4, 6, 7, 8, 9])
        self.assertEqual(self.who_stand((("cuts", 40, 2, -1), ("cuts", 41, 6, -1))), [0, 3, 4, 8, 9])

    def test_ahead_of_their_own_day(self):
        self.assertIs(stands(FAMILY, (), ALIKE, 39, 5), False)
        self.assertIs(stands(FAMILY, (), ALIKE, 40, 5), True)
        self.assertIs(stands(FAMILY, (), (5, "alike", 0, "lines"), 39, 5), False)
        self.assertIs(stands(FAMILY, (), (5, "alike", 0, "lines"), 39, 9), False)
        self.assertEqual(self.who_stand(day=20), [0, 2, 3, 4])

    def test_who_is_not_reached(self):
        self.assertIs(stands(FAMILY, (), ALIKE, 90, 1), False)

    def test_as_the_words_say(self):
        for house, book, row, day in some_cases(11, 150, 9):
            reached = slow.reached(house, book, row, day)
            for who in range(len(house)):
                right = who in reached and (row[1] != "only" or house[who][3] == 1)
                right = right and not any(word == "dies" and d <= day and f == who for word, d, f, o in book)
                backs = [d for word, d, f, o in book if word == "returns" and d <= day and f == who]
                left = [d for word, d, f, o in book if word in ("cuts", "leaves") and d <= day and f == who]
                right = right and all(any(back >= d for back in backs) for d in left)
                self.assertIs(stands(house, book, row, day, who), right)

    def test_sixty_one_folk(self):
        self.assertIs(stands(ladder(61), (), ALIKE, 60, 60), True)
        self.assertIs(stands(ladder(61), (), ALIKE, 59, 60), False)


class RightReach(unittest.TestCase):
    def says(self, thing, row=ALIKE, day=90, book=(), house=FAMILY):
        told = right_reach(house, book, row, day, thing)
        self.assertIs(type(told), bool)
        return told

    def with_pair(self, at, *pairs):
        return REACH[:at] + pairs + REACH[at + 1:]

    def test_ordinary(self):
        self.assertTrue(self.says(REACH))
        self.assertTrue(self.says(REACH, FIRST))
        self.assertTrue(self.says(((0, -1), (2, 0), (3, 0), (4, 0)), day=20))
        self.assertTrue(self.says(((0, -1), (2, 0), (3, 0), (4, 0), (6, 3), (8, 3), (9, 4)), ONLY))
        self.assertTrue(self.says(((1, -1),), (1, "only", 0, "lines")))

    def test_either_of_two_parents(self):
        self.assertTrue(self.says(self.with_pair(6, (7, 6))))
        self.assertTrue(self.says(self.with_pair(7, (8, 3))))
        self.assertFalse(self.says(self.with_pair(7, (8, 0))))
        self.assertFalse(self.says(self.with_pair(7, (8, 5))))
        self.assertFalse(self.says(self.with_pair(7, (8, -1))))

    def test_nothing_where_the_founder_is_not_born(self):
        row = (5, "alike", 0, "lines")
        self.assertTrue(self.says((), row, 39))
        self.assertFalse(self.says(((5, -1),), row, 39))
        self.assertFalse(self.says([], row, 39))
        self.assertFalse(self.says((), row, 40))
        self.assertTrue(self.says(((5, -1),), row, 40))
        self.assertFalse(self.says(()))
        for thing in ODD_THINGS:
            self.assertFalse(self.says(thing, row, 39))

    def test_the_founders_pair(self):
        self.assertFalse(self.says(REACH[1:]))
        self.assertFalse(self.says(self.with_pair(0, (0, 0))))
        self.assertFalse(self.says(self.with_pair(0, (0, 1))))
        self.assertFalse(self.says(self.with_pair(0, (0, 2))))
        self.assertFalse(self.says(self.with_pair(0, (0, -2))))
        self.assertFalse(self.says(self.with_pair(0, (0, -1), (0, 2))))
        row = (3, "alike", 0, "lines")
        self.assertTrue(self.says(((3, -1), (6, 3), (7, 6), (8, 3)), row))
        self.assertFalse(self.says(((3, 0), (6, 3), (7, 6), (8, 3)), row))
        self.assertFalse(self.says(((0, -1), (3, 0), (6, 3), (7, 6), (8, 3)), row))
        self.assertFalse(self.says(REACH, row))

    def test_one_left_out(self):
        for at in range(len(REACH)):
            self.assertFalse(self.says(self.with_pair(at)))
        self.assertFalse(self.says(((0, -1),)))

    def test_one_too_many(self):
        for parent in (-1, 0, 1, 2):
            self.assertFalse(self.says(self.with_pair(0, (0, -1), (1, parent))))
        self.assertFalse(self.says(REACH + ((10, 9),)))
        self.assertFalse(self.says(REACH + ((10 ** 40, 9),)))
        self.assertFalse(self.says(((-1, -1),) + REACH))
        self.assertFalse(self.says(((-1, 9),) + REACH))
        self.assertFalse(self.says(REACH, day=69))
        self.assertFalse(self.says(REACH, WED))
        self.assertFalse(self.says(REACH, ONLY))
        self.assertFalse(self.says(REACH, book=(("cuts", 70, 4, -1),)))
        self.assertTrue(self.says(REACH, book=(("cuts", 71, 4, -1),)))

    def test_numbers_beyond_the_house(self):
        men = ((0, -1), (2, 0), (3, 0), (4, 0), (6, 3), (8, 3), (9, 4))
        for row, right in ((ALIKE, REACH), (ONLY, men)):
            self.assertTrue(self.says(right, row))
            for number in (10, 11, 60, 10 ** 40):
                self.assertFalse(self.says(right + ((number, number),), row))
                self.assertFalse(self.says(right + ((number, number), (number + 1, number)), row))
            for number in (-1, -2, -10, -11, -10 ** 40):
                self.assertFalse(self.says(((number, number),) + right, row))

    def test_one_in_two_pairs(self):
        self.assertFalse(self.says(self.with_pair(6, (7, 5), (7, 6))))
        self.assertFalse(self.says(self.with_pair(7, (8, 2), (8, 3))))
        self.assertFalse(self.says(self.with_pair(7, (8, 2), (8, 2))))

    def test_pairs_rise(self):
        for at in range(1, len(REACH)):
            swapped = REACH[:at - 1] + (REACH[at], REACH[at - 1]) + REACH[at + 1:]
            self.assertFalse(self.says(swapped))
        self.assertFalse(self.says(REACH[::-1]))

    def test_a_parent_stands_in_a_pair(self):
        house = ((0, -1, -1, 1, 1), (0, -1, -1, 0, 1), (5, 0, 1, 1, 1))
        self.assertTrue(self.says(((0, -1), (2, 0)), house=house))
        self.assertFalse(self.says(((0, -1), (2, 1)), house=house))
        self.assertFalse(self.says(((0, -1), (1, -1), (2, 1)), house=house))
        self.assertFalse(self.says(((0, -1), (2, 10)), house=house))
        self.assertFalse(self.says(((0, -1), (2, -1)), house=house))
        self.assertFalse(self.says(((0, -1), (2, -3)), house=house))

    def test_truths_are_no_numbers(self):
        house = ((0, -1, -1, 1, 1), (1, 0, -1, 1, 1), (2, 1, -1, 1, 1))
        self.assertTrue(self.says(((0, -1), (1, 0), (2, 1)), house=house))
        self.assertFalse(self.says(((False, -1), (1, 0), (2, 1)), house=house))
        self.assertFalse(self.says(((0, -1), (True, 0), (2, 1)), house=house))
        self.assertFalse(self.says(((0, -1), (1, False), (2, 1)), house=house))
        self.assertFalse(self.says(((0, -1), (1, 0), (2, True)), house=house))
        self.assertFalse(self.says(as_truths(REACH)))

    def test_lists_are_no_tuples(self):
        self.assertFalse(self.says(list(REACH)))
        self.assertFalse(self.says(listed(REACH)))
        for at, pair in enumerate(REACH):
            self.assertFalse(self.says(self.with_pair(at, list(pair))))

    def test_anything_else(self):
        for thing in ODD_THINGS:
            self.assertFalse(self.says(thing))
            self.assertFalse(self.says((thing,)))
            self.assertFalse(self.says(REACH + (thing,)))
            self.assertFalse(self.says(REACH[:8] + ((9, thing),)))
            self.assertFalse(self.says(REACH[:8] + ((thing, 4),)))
        self.assertFalse(self.says(REACH[:8] + ((9, 4, -1),)))
        self.assertFalse(self.says(REACH[:8] + ((9,),)))

    def test_every_reach_of_small_houses(self):
        houses = (
            ((0, -1, -1, 1, 1), (1, 0, -1, 0, 1), (2, 0, 1, 1, 1)),
            ((0, -1, -1, 1, 1), (0, -1, -1, 0, 1), (1, 0, 1, 1, 0), (2, 2, 1, 0, 1)),
            ((0, -1, -1, 0, 1), (1, -1, 0, 1, 1), (1, -1, 0, 0, 1), (2, 1, 2, 1, 1)),
        )
        for house in houses:
            for row in all_rows(0) + all_rows(1):
                for book in ((), (("cuts", 1, 0, -1),), (("cuts", 2, 1, -1),)):
                    self.look_at_all(house, book, row)

    def look_at_all(self, house, book, row):
        choices = [[()] + [((who, parent),) for parent in range(-1, len(house))] for who in range(len(house))]
        found = 0
        for parts in product(*choices):
            thing = sum(parts, ())
            right = slow.is_reach(house, book, row, 2, thing)
            self.assertEqual(self.says(thing, row, 2, book, house), right)
            if right:
                found += 1
                self.assertEqual([pair[0] for pair in thing], slow.reached(house, book, row, 2))
        self.assertGreaterEqual(found, 1)

    def test_as_the_words_say(self):
        for house, book, row, day in some_cases(12, 40, 8):
            for thing in changed(reach_of(house, book, row, day)):
                self.assertEqual(self.says(thing, row, day, book, house), slow.is_reach(house, book, row, day, thing))


class ReachOf(unittest.TestCase):
    def test_some_one_is_told(self):
        for house, book, row, day in some_cases(13, 200, 9) + [(ladder(61), (), ALIKE, 60), (row_of(61), (), ONLY, 60)]:
            told = reach_of(house, book, row, day)
            self.assertTrue(is_plain(told))
            self.assertTrue(slow.is_reach(house, book, row, day, told))
            self.assertIs(right_reach(house, book, row, day, told), True)
            self.assertEqual(reach_of(house, book, row, day), told)

    def test_just_all_who_are_reached(self):
        self.assertEqual([pair[0] for pair in reach_of(FAMILY, (), ALIKE, 90)], [0, 2, 3, 4, 5, 6, 7, 8, 9])
        self.assertEqual([pair[0] for pair in reach_of(ladder(61), (), FIRST, 60)], list(range(61)))

    def test_nothing_where_the_founder_is_not_born(self):
        row = (5, "first", 0, "age")
        self.assertEqual(reach_of(FAMILY, (), row, 39), ())
        self.assertEqual(reach_of(FAMILY, (), row, 40), ((5, -1),))
        self.assertEqual(reach_of(FAMILY, (), row, 60), ((5, -1), (7, 5)))


if __name__ == "__main__":
    unittest.main()
