"""Point [18]: reigns, who sits, who is last, and regents."""

import unittest

from tests import slow_thrones
from tests.by_hand import BOOK, HOUSE, RULE
from tests.makers import FAMILY, LAST, Dice, is_plain, ladder, row_of, some_house, some_rule, some_thrones, some_whole_book
from thronewalk.folk import check_house
from thronewalk.news import check_book
from thronewalk.reigns import last_at, regent_at, reigns, sitter_at
from thronewalk.rules import check_rule

LINES = ((0, "alike", 0, "lines"),)
AGE = ((0, "alike", 0, "age"),)
NEAR = ((0, "alike", 0, "near"),)


class Asking(unittest.TestCase):
    def reigns(self, book, rule=LINES, until=LAST, house=FAMILY):
        check_house(house)
        check_book(house, book)
        check_rule(house, rule)
        told = reigns(house, book, rule, until)
        self.assertTrue(is_plain(told))
        return told

    def days(self, ask, book, days, rule=LINES, house=FAMILY):
        told = tuple(ask(house, book, rule, day) for day in days)
        self.assertTrue(is_plain(told))
        return list(told)


class Reigns(Asking):
    def test_the_told_day(self):
        rule = ((5, "alike", 0, "lines"),)
        for until in (0, 39):
            self.assertEqual(self.reigns((), rule, until), ())
        for until in (40, 41, LAST):
            self.assertEqual(self.reigns((), rule, until), ((40, 5),))
        book = (("dies", 60, 5, -1),)
        self.assertEqual(self.reigns(book, rule, 59), ((40, 5),))
        self.assertEqual(self.reigns(book, rule, 60), ((40, 5), (60, 7)))
        self.assertEqual(self.reigns(book, rule, LAST), ((40, 5), (60, 7)))

    def test_who_sits_dies_leaves_cuts(self):
        for word in ("dies", "leaves", "cuts"):
            self.assertEqual(self.reigns(((word, 80, 0, -1),)), ((0, 0), (80, 2)))
            self.assertEqual(self.reigns(((word, 80, 0, -1),), until=79), ((0, 0),))
            self.assertEqual(self.reigns(((word, 80, 2, -1),)), ((0, 0),))

    def test_the_cut_who_are_born_from_that_day_on(self):
        self.assertEqual(self.reigns((("cuts", 15, 0, -1),)), ((0, 0), (15, 2)))
        self.assertEqual(self.reigns((("cuts", 10, 0, -1),)), ((0, 0), (10, -1)))
        self.assertEqual(self.reigns((("cuts", 5, 0, -1),)), ((0, 0), (5, -1)))

    def test_returns_on_the_same_day(self):
        for word in ("leaves", "cuts"):
            self.assertEqual(self.reigns(tuple(sorted(((word, 80, 0, -1), ("returns", 80, 0, -1))))), ((0, 0),))

    def test_returns_later(self):
        for word in ("leaves", "cuts"):
            book = tuple(sorted(((word, 80, 0, -1), ("returns", 85, 0, -1))))
            self.assertEqual(self.reigns(book), ((0, 0), (80, 2)))
        book = (("leaves", 5, 0, -1), ("returns", 8, 0, -1))
        self.assertEqual(self.reigns(book), ((0, 0), (5, -1), (8, 0)))
        book = (("leaves", 5, 0, -1), ("returns", 10, 0, -1))
        self.assertEqual(self.reigns(book), ((0, 0), (5, -1), (10, 0)))

    def test_who_comes_to_stand_ahead_does_not_take_the_seat(self):
        book = (("dies", 15, 0, -1),)
        rule = ((0, "first", 0, "lines"),)
        self.assertEqual(self.reigns(book, rule), ((0, 0), (15, 2)))
        self.assertEqual(self.reigns((("dies", 20, 0, -1),), rule), ((0, 0), (20, 3)))

    def test_nobody_stands_then_somebody_is_born(self):
        self.assertEqual(self.reigns((("dies", 5, 0, -1),)), ((0, 0), (5, -1), (10, 2)))
        self.assertEqual(self.reigns((("dies", 0, 0, -1),)), ((0, -1), (10, 2)))
        self.assertEqual(self.reigns((("dies", 0, 0, -1),), until=9), ((0, -1),))
        book = (("dies", 0, 0, -1), ("dies", 10, 2, -1))
        self.assertEqual(self.reigns(book), ((0, -1), (20, 3)))

    def test_one_behind_another(self):
        book = (("dies", 50, 0, -1), ("dies", 55, 2, -1), ("dies", 55, 5, -1), ("dies", 62, 3, -1), ("dies", 75, 8, -1))
        self.assertEqual(self.reigns(book), ((0, 0), (50, 2), (55, 3), (62, 7)))
        self.assertEqual(self.reigns(book, AGE), ((0, 0), (50, 2), (55, 3), (62, 4)))

    def test_the_last_one_goes(self):
        house = row_of(3)
        self.assertEqual(self.reigns((("dies", 7, 0, -1),), LINES, LAST, house), ((0, 0), (7, -1)))
        self.assertEqual(self.reigns((("dies", LAST, 0, -1),), LINES, LAST, house), ((0, 0), (LAST, -1)))

    def test_two_and_three_rows(self):
        book = (("dies", 45, 5, -1), ("dies", 61, 7, -1), ("dies", 90, 4, -1), ("dies", 95, 9, -1))
        rule = ((5, "alike", 0, "lines"), (4, "only", 0, "age"), (4, "alike", 0, "age"))
        self.assertEqual(self.reigns(book, rule), ((40, 5), (45, 4), (90, 9), (95, -1)))
        self.assertEqual(self.reigns(book, rule[:2]), ((40, 5), (45, 4), (90, -1)))
        self.assertEqual(self.reigns(book, rule[:1]), ((40, 5), (45, -1), (60, 7), (61, -1)))

    def test_by_nearness_last_decides(self):
        house = ((0, -1, -1, 1, 1), (5, 0, -1, 1, 1), (6, 0, -1, 1, 1), (9, 1, -1, 1, 1), (9, 2, -1, 1, 1))
        for first, near in ((1, 3), (2, 4)):
            book = tuple(sorted((("dies", 20, 0, -1), ("dies", 15, 3 - first, -1), ("dies", 21, first, -1))))
            self.assertEqual(self.reigns(book, NEAR, house=house), ((0, 0), (20, first), (21, near)))
        book = (("dies", 20, 0, -1), ("dies", 21, 1, -1))
        self.assertEqual(self.reigns(book, NEAR, house=house), ((0, 0), (20, 1), (21, 3)))
        self.assertEqual(self.reigns(book, AGE, house=house), ((0, 0), (20, 1), (21, 2)))

    def test_by_nearness_behind_a_time_without_a_sitter(self):
        # 1 sat last, however long ago: a child of hers is nearer than one of her brother's.
        house = ((0, -1, -1, 1, 1), (1, 0, -1, 0, 1), (2, 0, -1, 1, 1), (40, 2, -1, 1, 1), (40, -1, 1, 1, 1))
        book = (("dies", 10, 0, -1), ("dies", 20, 1, -1), ("leaves", 9, 2, -1))
        self.assertEqual(self.reigns(book, NEAR, house=house), ((0, 0), (10, 1), (20, -1), (40, 4)))
        self.assertEqual(self.reigns(book, AGE, house=house), ((0, 0), (10, 1), (20, -1), (40, 3)))


class Awaited(Asking):
    def test_would_be_the_first(self):
        self.assertEqual(self.reigns(BOOK, RULE, house=HOUSE), ((10, 1), (60, 3), (70, -1), (350, 2)))
        self.assertEqual(self.reigns(BOOK, RULE, 349, HOUSE), ((10, 1), (60, 3), (70, -1)))

    def test_would_not_be_the_first(self):
        book = BOOK[:2]
        self.assertEqual(self.reigns(book, RULE, house=HOUSE), ((10, 1), (60, 3)))
        for rule in (((1, "alike", 1, "lines"),), ((1, "alike", 1, "age"),), ((1, "first", 0, "age"),)):
            self.assertEqual(self.reigns(BOOK, rule, house=HOUSE), ((10, 1), (60, 2)))

    def test_who_sits_sits_on(self):
        self.assertEqual(self.reigns(BOOK[:1], RULE, house=HOUSE), ((10, 1),))
        book = (("awaits", 75, 0, 1), ("dies", 60, 1, -1), ("dies", 70, 3, -1))
        self.assertEqual(self.reigns(book, RULE, house=HOUSE), ((10, 1), (60, 3), (70, 2)))
        book = (("awaits", 70, 0, 1), ("dies", 60, 1, -1), ("dies", 70, 3, -1))
        self.assertEqual(self.reigns(book, RULE, house=HOUSE), ((10, 1), (60, 3), (70, -1), (370, 2)))

    def test_the_300th_day(self):
        days = (69, 70, 348, 349, 350, 351)
        self.assertEqual(self.days(sitter_at, BOOK, days, RULE, HOUSE), [3, -1, -1, -1, 2, 2])
        self.assertEqual(self.days(last_at, BOOK, days, RULE, HOUSE), [3, 3, 3, 3, 2, 2])

    def test_the_birth(self):
        for man, first in ((1, 4), (0, 2)):
            for day in (71, 200, 349):
                house = HOUSE + ((day, 1, 0, man, 1),)
                self.assertEqual(self.reigns(BOOK, RULE, house=house), ((10, 1), (60, 3), (70, -1), (day, first)))
        # On the day of the birth the one who was born is there already.
        house = HOUSE + ((70, 1, 0, 1, 1),)
        self.assertEqual(self.reigns(BOOK, RULE, house=house), ((10, 1), (60, 3), (70, 4)))
        # A son out of wedlock doesn't count by the rule, but isn't awaited any more.
        house = HOUSE + ((200, 1, 0, 1, 0),)
        self.assertEqual(self.reigns(BOOK, RULE, house=house), ((10, 1), (60, 3), (70, -1), (200, 2)))

    def test_the_death_of_the_mother(self):
        for day in (71, 200, 349):
            book = BOOK[:1] + tuple(sorted(BOOK[1:] + (("dies", day, 0, -1),)))
            self.assertEqual(self.reigns(book, RULE, house=HOUSE), ((10, 1), (60, 3), (70, -1), (day, 2)))
        for day in (55, 70):
            book = BOOK[:1] + tuple(sorted(BOOK[1:] + (("dies", day, 0, -1),)))
            self.assertEqual(self.reigns(book, RULE, house=HOUSE), ((10, 1), (60, 3), (70, 2)))

    def test_the_cut_of_the_father(self):
        book = tuple(sorted(BOOK + (("cuts", 55, 1, -1),)))
        self.assertEqual(self.reigns(book, RULE, house=HOUSE), ((10, 1), (55, 3), (70, 2)))
        # The child of a father who left counts.
        book = tuple(sorted(BOOK + (("leaves", 55, 1, -1),)))
        self.assertEqual(self.reigns(book, RULE, house=HOUSE), ((10, 1), (55, 3), (70, -1), (350, 2)))
        # And one whose father is cut while nobody sits counts no more.
        book = tuple(sorted(BOOK + (("cuts", 90, 1, -1),)))
        self.assertEqual(self.reigns(book, RULE, house=HOUSE), ((10, 1), (60, 3), (70, -1), (90, 2)))

    def test_nobody_else_stands(self):
        house = HOUSE[:2]
        book = (("awaits", 50, 0, 1), ("dies", 60, 1, -1))
        self.assertEqual(self.reigns(book, RULE, house=house), ((10, 1), (60, -1)))
        house = HOUSE[:2] + ((90, 1, 0, 0, 1),)
        self.assertEqual(self.reigns(book, RULE, house=house), ((10, 1), (60, -1), (90, 2)))

    def test_two_that_are_awaited(self):
        book = (("awaits", 50, 0, 1), ("awaits", 65, 0, 1)) + BOOK[1:]
        self.assertEqual(self.reigns(book, RULE, house=HOUSE), ((10, 1), (60, 3), (70, -1), (365, 2)))
        book = (("awaits", 50, 0, 1), ("awaits", 65, 0, -1)) + BOOK[1:]
        self.assertEqual(self.reigns(book, RULE, house=HOUSE), ((10, 1), (60, 3), (70, -1), (350, 2)))

    def test_by_nearness(self):
        # The child of who sat last is nearer than a sister; the child of the sister isn't.
        house = ((0, -1, -1, 1, 1), (0, -1, -1, 0, 1), (5, 0, -1, 0, 1), (6, 0, -1, 1, 1))
        rule = NEAR
        base = (("dies", 20, 0, -1), ("dies", 40, 3, -1), ("leaves", 10, 2, -1), ("returns", 25, 2, -1))
        book = (("awaits", 35, 1, 3),) + base
        self.assertEqual(self.reigns(book, rule, house=house), ((0, 0), (20, 3), (40, -1), (335, 2)))
        book = (("awaits", 35, 2, -1),) + base
        self.assertEqual(self.reigns(book, rule, house=house), ((0, 0), (20, 3), (40, 2)))

    def test_the_beginning(self):
        # The founder dies on the day of the beginning, a child of theirs is awaited: never, for the
        # day of the news is above theirs; but one of a later row's founder may be.
        house = ((0, -1, -1, 0, 1), (50, -1, -1, 1, 1))
        book = (("awaits", 45, 0, -1), ("dies", 50, 1, -1), ("leaves", 40, 0, -1))
        rule = ((1, "alike", 0, "lines"), (0, "alike", 0, "lines"))
        self.assertEqual(self.reigns(book, rule, house=house), ((50, -1),))
        house = house + ((60, -1, 0, 1, 1),)
        self.assertEqual(self.reigns(book, rule, house=house), ((50, -1), (60, 2)))


class SitterAndLast(Asking):
    BOOK = (("dies", 5, 0, -1), ("dies", 50, 2, -1), ("leaves", 55, 5, -1), ("leaves", 55, 3, -1), ("leaves", 55, 6, -1))

    def test_sitter(self):
        book = tuple(sorted(self.BOOK))
        days = (0, 4, 5, 9, 10, 49, 50, 54, 55, 59, 60, LAST)
        self.assertEqual(self.days(sitter_at, book, days), [0, 0, -1, -1, 2, 2, 5, 5, 4, 4, 4, 4])
        rule = ((5, "alike", 0, "lines"),)
        self.assertEqual(self.days(sitter_at, (), (0, 39, 40, LAST), rule), [-1, -1, 5, 5])

    def test_last(self):
        book = tuple(sorted(self.BOOK))
        days = (0, 4, 5, 9, 10, 49, 50, 54, 55, LAST)
        self.assertEqual(self.days(last_at, book, days), [0, 0, 0, 0, 2, 2, 5, 5, 4, 4])

    def test_last_ahead_of_the_beginning(self):
        rule = ((5, "alike", 0, "lines"), (0, "alike", 0, "age"))
        self.assertEqual(self.days(last_at, (), (0, 39, 40), rule), [5, 5, 5])
        book = (("dies", 40, 5, -1),)
        self.assertEqual(self.days(last_at, book, (0, 39, 40), rule), [5, 5, 0])
        self.assertEqual(self.days(last_at, book, (0, 39, 40, 59, 60), rule[:1]), [5, 5, 5, 5, 7])

    def test_last_while_nobody_sits(self):
        book = (("dies", 65, 7, -1), ("leaves", 45, 5, -1))
        rule = ((5, "alike", 0, "lines"),)
        days = (44, 45, 59, 60, 64, 65, LAST)
        self.assertEqual(self.days(sitter_at, book, days, rule), [5, -1, -1, 7, 7, -1, -1])
        self.assertEqual(self.days(last_at, book, days, rule), [5, 5, 5, 7, 7, 7, 7])

    def test_who_never_sat(self):
        book = (("dies", 0, 0, -1),)
        self.assertEqual(self.days(last_at, book, (0, 9, 10)), [0, 0, 2])
        self.assertEqual(self.days(sitter_at, book, (0, 9, 10)), [-1, -1, 2])


class Regent(Asking):
    HOUSE = (
        (0, -1, -1, 1, 1),
        (100, 0, -1, 0, 1),
        (1430, 0, -1, 0, 1),
        (7000, 0, -1, 1, 1),
        (7000, 0, -1, 1, 1),
    )
    RULE = ((0, "first", 0, "lines"),)
    BOOK = (("dies", 8000, 0, -1),)

    def regents(self, days, book=BOOK, rule=RULE, house=HOUSE):
        check_house(house)
        check_book(house, book)
        return self.days(regent_at, book, days, rule, house)

    def test_who_sits_is_younger(self):
        self.assertEqual(self.regents((7999, 8000, 8001, 13569, 13570, 13571)), [-1, 1, 1, 1, -1, -1])

    def test_the_founder_is_young(self):
        self.assertEqual(self.regents((0, 100, 6569, 6570, 6571)), [-1] * 5)
        rule = ((2, "alike", 0, "lines"), (0, "alike", 0, "age"))
        self.assertEqual(self.regents((1429, 1430, 6569, 6570, 7999, 8000), rule=rule), [-1, -1, -1, 0, 0, -1])
        book = (("dies", 6800, 0, -1),)
        self.assertEqual(self.regents((6799, 6800, 7999), book, rule), [0, 1, 1])

    def test_exactly_old_enough(self):
        book = (("dies", 8000, 0, -1), ("dies", 8000, 1, -1))
        self.assertEqual(self.regents((8000, 8001), book), [2, 2])
        book = (("dies", 7999, 0, -1), ("dies", 7999, 1, -1))
        self.assertEqual(self.regents((7999, 8000), book), [-1, 2])

    def test_nobody_is_old_enough(self):
        book = (("dies", 7100, 0, -1), ("dies", 7100, 1, -1), ("dies", 7100, 2, -1))
        self.assertEqual(self.regents((7100, 13569, 13570), book), [-1, -1, -1])

    def test_the_first_in_the_order(self):
        house = self.HOUSE[:2] + ((200, 0, -1, 1, 1),) + self.HOUSE[3:]
        book = (("dies", 8000, 0, -1), ("leaves", 8000, 2, -1), ("returns", 8100, 2, -1))
        self.assertEqual(self.regents((8000, 8099, 8100), book, house=house), [1, 1, 2])

    def test_with_who_sits_as_last(self):
        # By nearness to the child who sits, the mother comes ahead of the uncle.
        house = ((0, -1, -1, 1, 1), (10, 0, -1, 1, 1), (20, 0, -1, 0, 1), (9000, -1, 2, 1, 1))
        rule = ((3, "alike", 0, "lines"), (0, "alike", 0, "near"))
        book = (("dies", 8000, 0, -1),)
        self.assertEqual(self.regents((9000, 9500), book, rule, house), [2, 2])
        age = (rule[0], (0, "alike", 0, "age"))
        self.assertEqual(self.regents((9000, 9500), book, age, house), [1, 1])

    def test_nobody_sits(self):
        house = row_of(3)
        book = (("dies", 7, 0, -1),)
        self.assertEqual(self.regents((7, 100), book, LINES, house), [-1, -1])
        rule = ((3, "first", 0, "lines"), (1, "alike", 0, "age"))
        self.assertEqual(self.regents((0, 200, 6999, 7000, 13570), (), rule), [-1, -1, -1, 1, -1])

    def test_nobody_sits_for_a_child_is_awaited(self):
        house = ((0, -1, -1, 0, 1), (10, -1, -1, 1, 1), (30, 1, 0, 0, 1), (8000, 1, 0, 1, 1))
        book = (("awaits", 8050, 0, 1), ("dies", 8060, 1, -1), ("dies", 8070, 3, -1))
        days = (8059, 8060, 8069, 8070, 8349, 8350)
        self.assertEqual(self.days(sitter_at, book, days, RULE, house), [1, 3, 3, -1, -1, 2])
        self.assertEqual(self.regents(days, book, RULE, house), [-1, 2, 2, -1, -1, -1])

    def test_as_the_words_say(self):
        found = 0
        for house, book, rule, day in some_thrones(101, 60, 8, 9000):
            for asked in (day, day + 2000, day + 6570):
                sits = sitter_at(house, book, rule, asked)
                right = -1
                if sits != -1 and asked - house[sits][0] < 6570:
                    order = slow_thrones.order_of(house, book, rule, asked, sits)
                    old = [who for who in order if who != sits and asked - house[who][0] >= 6570]
                    right = (old + [-1])[0]
                self.assertEqual(regent_at(house, book, rule, asked), right)
                found += right != -1
        self.assertGreater(found, 5)


class AsTheWordsSay(Asking):
    def test_day_by_day(self):
        for scale, many in ((12, 150), (450, 60)):
            for house, book, rule, day in some_thrones(111 + scale, many, 8, scale):
                until = day + 320
                seats = slow_thrones.seats(house, book, rule, until)
                self.assertEqual(self.reigns(book, rule, until, house), slow_thrones.reigns(house, book, rule, until))
                for asked, sits, last in seats[:3] + seats[::45] + seats[-1:]:
                    self.assertEqual(sitter_at(house, book, rule, asked), sits)
                    self.assertEqual(last_at(house, book, rule, asked), last)


class Large(Asking):
    """Houses of sixty with books of sixty are answered, and in seconds."""

    def test_ladders(self):
        house = ladder(60)
        book = tuple(("dies", 60 + who, who, -1) for who in range(60))
        for way in ("lines", "age", "near"):
            told = self.reigns(book, ((0, "alike", 0, way),), house=house)
            self.assertEqual(len(told), 61)
            self.assertEqual(told[-1], (119, -1))
        self.assertEqual(sitter_at(house, book, LINES, 118), 59)
        self.assertEqual(last_at(house, book, LINES, LAST), 59)

    def test_sixty_that_are_awaited_while_nobody_sits(self):
        house = ((0, -1, -1, 1, 1),) + tuple((2 * who, 0, -1, 0, 1) for who in range(1, 60))
        book = tuple(("awaits", 120 + who, who, -1) for who in range(1, 60)) + (("dies", 0, 0, -1),)
        for way in ("lines", "age", "near"):
            self.assertEqual(self.reigns(book, ((0, "only", 0, way),) * 3, house=house), ((0, -1),))

    def test_some_of_sixty(self):
        dice = Dice(121)
        for _ in range(8):
            house = some_house(dice, 60, 400)
            book = some_whole_book(dice, house, 60, 400)
            rule = some_rule(dice, house)
            told = self.reigns(book, rule, LAST, house)
            self.assertEqual(sitter_at(house, book, rule, LAST), told[-1][1])
            self.assertEqual(told, self.reigns(book, rule, LAST, house))


if __name__ == "__main__":
    unittest.main()
