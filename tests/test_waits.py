"""Point [17]: children that are awaited, and their houses."""

import unittest

from tests import slow_thrones
from tests.makers import is_plain, ladder, some_thrones
from thronewalk.degrees import degrees
from thronewalk.errors import NoHouse
from thronewalk.firstmaking import first_paper
from thronewalk.firsts import right_first
from thronewalk.folk import born_by, check_house, children_of
from thronewalk.news import book_up_to, check_book
from thronewalk.orders import first_of, order_of
from thronewalk.places import right_place
from thronewalk.placing import place_of
from thronewalk.reach import reach_of, right_reach, stands
from thronewalk.rules import check_rule
from thronewalk.steps import steps_of
from thronewalk.waits import child_house, open_awaits

PAIR = ((0, -1, -1, 1, 1), (0, -1, -1, 0, 1))
AWAITS = ("awaits", 100, 1, 0)


def with_child(day, mother=1, father=0):
    return PAIR + ((day, father, mother, 0, 1),)


class OpenAwaits(unittest.TestCase):
    def places(self, book, day, house=PAIR):
        check_book(house, book)
        told = open_awaits(house, book, day)
        self.assertTrue(is_plain(told))
        return told

    def days(self, book, house=PAIR, days=(99, 100, 101, 250, 399, 400, 401)):
        return [day for day in days if self.places(book, day, house)]

    def test_from_its_day_to_299_days_behind_it(self):
        self.assertEqual(self.days((AWAITS,)), [100, 101, 250, 399])
        self.assertEqual(self.days((AWAITS,), days=range(0, 500)), list(range(100, 400)))

    def test_with_and_without_other(self):
        self.assertEqual(self.days((("awaits", 100, 1, -1),)), [100, 101, 250, 399])

    def test_who_is_dead(self):
        self.assertEqual(self.days((AWAITS, ("dies", 100, 1, -1))), [])
        self.assertEqual(self.days((AWAITS, ("dies", 101, 1, -1))), [100])
        self.assertEqual(self.days((AWAITS, ("dies", 250, 1, -1))), [100, 101])
        self.assertEqual(self.days((AWAITS, ("dies", 400, 1, -1))), [100, 101, 250, 399])
        self.assertEqual(self.days((AWAITS, ("dies", 50, 1, -1))), [])

    def test_other_may_be_dead(self):
        self.assertEqual(self.days((AWAITS, ("dies", 60, 0, -1))), [100, 101, 250, 399])

    def test_who_may_be_out(self):
        for word in ("leaves", "cuts"):
            self.assertEqual(self.days((AWAITS, (word, 60, 1, -1))), [100, 101, 250, 399])

    def test_a_child_is_born(self):
        self.assertEqual(self.days((AWAITS,), with_child(99)), [100, 101, 250, 399])
        self.assertEqual(self.days((AWAITS,), with_child(100)), [100, 101, 250, 399])
        self.assertEqual(self.days((AWAITS,), with_child(101)), [100])
        self.assertEqual(self.days((AWAITS,), with_child(250)), [100, 101])
        self.assertEqual(self.days((AWAITS,), with_child(251)), [100, 101, 250])
        self.assertEqual(self.days((AWAITS,), with_child(399)), [100, 101, 250])
        self.assertEqual(self.days((AWAITS,), with_child(400)), [100, 101, 250, 399])

    def test_a_child_of_another_mother(self):
        self.assertEqual(self.days((AWAITS,), with_child(101, -1)), [100, 101, 250, 399])

    def test_a_child_of_another_father(self):
        self.assertEqual(self.days((AWAITS,), with_child(101, 1, -1)), [100])

    def test_two_of_one_who(self):
        book = (("awaits", 100, 1, -1), ("awaits", 100, 1, 0), ("awaits", 200, 1, 0))
        told = [self.places(book, day) for day in (99, 100, 199, 200, 399, 400, 499, 500)]
        self.assertEqual(told, [(), (0, 1), (0, 1), (0, 1, 2), (0, 1, 2), (2,), (2,), ()])
        told = [self.places(book, day, with_child(200)) for day in (100, 199, 200, 201, 499, 500)]
        self.assertEqual(told, [(0, 1), (0, 1), (2,), (2,), (2,), ()])
        told = [self.places(book, day, with_child(201)) for day in (200, 201)]
        self.assertEqual(told, [(0, 1, 2), ()])

    def test_places_in_the_book(self):
        house = PAIR + ((10, 0, -1, 0, 1),)
        book = (("awaits", 50, 1, -1), ("awaits", 60, 2, 0), ("awaits", 500, 1, -1), ("cuts", 60, 1, -1))
        told = [self.places(book, day, house) for day in (50, 60, 349, 350, 359, 360, 500)]
        self.assertEqual(told, [(0,), (0, 1), (0, 1), (1,), (1,), (), (2,)])

    def test_other_words_are_never_open(self):
        for word in ("cuts", "dies", "leaves", "returns"):
            self.assertEqual(self.days(((word, 100, 1, -1),)), [])
        self.assertEqual(self.places((), 100), ())

    def test_near_the_last_day(self):
        book = (("awaits", 99900, 1, -1),)
        self.assertEqual(self.days(book, days=(99899, 99900, 99999)), [99900, 99999])

    def test_as_the_words_say(self):
        found = 0
        for scale in (12, 450):
            for house, book, rule, day in some_thrones(91 + scale, 150, 8, scale):
                for asked in (day, day + 100, day + 299, day + 300, day + 301):
                    told = self.places(book, asked, house)
                    self.assertEqual(list(told), slow_thrones.open_awaits(house, book, asked))
                    found += len(told)
        self.assertGreater(found, 300)


class ChildHouse(unittest.TestCase):
    def test_one_folk_more(self):
        self.assertEqual(child_house(PAIR, (AWAITS,), 150, 0), PAIR + ((150, 0, 1, 1, 1),))
        self.assertEqual(child_house(PAIR, (AWAITS,), 100, 0), PAIR + ((100, 0, 1, 1, 1),))
        self.assertEqual(child_house(PAIR, (("awaits", 100, 1, -1),), 399, 0), PAIR + ((399, -1, 1, 1, 1),))

    def test_folk_born_behind_the_day(self):
        house = PAIR + ((120, 0, -1, 1, 1), (150, 0, -1, 0, 0), (151, -1, 1, 1, 1))
        self.assertEqual(child_house(house, (AWAITS,), 119, 0), PAIR + ((119, 0, 1, 1, 1),))
        self.assertEqual(child_house(house, (AWAITS,), 150, 0), house[:4] + ((150, 0, 1, 1, 1),))

    def test_by_place(self):
        book = (("awaits", 100, 1, -1), ("awaits", 100, 1, 0), ("dies", 110, 0, -1))
        self.assertEqual(child_house(PAIR, book, 120, 0)[2], (120, -1, 1, 1, 1))
        self.assertEqual(child_house(PAIR, book, 120, 1)[2], (120, 0, 1, 1, 1))

    def test_what_is_told(self):
        told = child_house(PAIR, (AWAITS,), 150, 0)
        self.assertTrue(is_plain(told))
        self.assertIsNone(check_house(told))
        self.assertEqual(PAIR, ((0, -1, -1, 1, 1), (0, -1, -1, 0, 1)))

    def test_as_the_words_say(self):
        found = 0
        for house, book, rule, day in some_thrones(93, 300, 8):
            for place in open_awaits(house, book, day):
                awaited = child_house(house, book, day, place)
                self.assertEqual(awaited, slow_thrones.child_house(house, book, day, place))
                self.assertIsNone(check_house(awaited))
                self.assertIsNone(check_book(awaited, book_up_to(book, day)))
                self.assertIsNone(check_rule(awaited, rule))
                found += 1
        self.assertGreater(found, 50)

    def test_of_sixty(self):
        house = ladder(60)
        book = (("awaits", 61, 59, 58),)
        awaited = child_house(house, book, 70, 0)
        self.assertEqual(awaited, house + ((70, 58, 59, 1, 1),))
        with self.assertRaises(NoHouse):
            check_house(awaited)
        self.assertIsNone(check_book(awaited, book))
        row = (0, "first", 1, "lines")
        self.assertIsNone(check_rule(awaited, (row,)))
        self.assertEqual(born_by(awaited, 70), 61)
        self.assertEqual(children_of(awaited, 59), (60,))
        self.assertEqual(steps_of(awaited, book, row, 70, 58), (60, 59))
        self.assertIs(stands(awaited, book, row, 70, 60), True)
        self.assertTrue(right_reach(awaited, book, row, 70, reach_of(awaited, book, row, 70)))
        self.assertTrue(right_place(awaited, book, row, 70, 60, place_of(awaited, book, row, 70, 60)))
        self.assertEqual(len(degrees(awaited, book, row, 70, 60)), 61)
        for way in ("lines", "age", "near"):
            rule = ((0, "alike", 0, way),)
            self.assertEqual(len(order_of(awaited, book, rule, 70, 60)), 61)
            paper = first_paper(awaited, book, rule, 70, 60)
            self.assertTrue(right_first(awaited, book, rule, 70, 60, first_of(awaited, book, rule, 70, 60), paper))
        self.assertEqual(first_of(awaited, book, ((0, "alike", 0, "near"),), 70, 60), 60)


if __name__ == "__main__":
    unittest.main()
