"""Point [26]: who sits on several thrones at once."""

import unittest

from tests import slow_thrones
from tests.makers import FAMILY, LAST, Dice, is_plain, ladder, some_house, some_rule, some_thrones, some_whole_book
from thronewalk.news import check_book
from thronewalk.reigns import reigns, sitter_at
from thronewalk.unions import heads_at, unions

ALIKE = ((0, "alike", 0, "lines"),)
FIRST = ((0, "first", 0, "lines"),)

# Two thrones with founders of their own; 2 is a child of both founders.
HOUSE = ((5, -1, -1, 1, 1), (7, -1, -1, 0, 1), (20, 0, 1, 1, 1), (30, 0, -1, 1, 1), (40, -1, 1, 0, 1))
HIS = ((0, "alike", 0, "lines"),)
HERS = ((1, "alike", 0, "lines"),)
BOOK = (("dies", 50, 0, -1), ("dies", 60, 1, -1), ("dies", 70, 2, -1))


class Heads(unittest.TestCase):
    def heads(self, rules, day, house=HOUSE, book=BOOK):
        check_book(house, book)
        told = heads_at(house, book, rules, day)
        self.assertTrue(is_plain(told))
        return told

    def test_one_to_six_rules(self):
        self.assertEqual(self.heads((HIS,), 49), (0,))
        self.assertEqual(self.heads((HIS, HERS), 49), (0, 1))
        self.assertEqual(self.heads((HERS, HIS), 50), (1, 2))
        self.assertEqual(self.heads((HIS, HERS, HIS, HERS, HIS, HERS), 60), (2,) * 6)
        self.assertEqual(self.heads((HIS, HERS, HIS, HERS, HIS, HERS), 70), (3, 4) * 3)

    def test_ahead_of_the_beginning(self):
        self.assertEqual(self.heads((HIS, HERS), 4), (-1, -1))
        self.assertEqual(self.heads((HIS, HERS), 5), (0, -1))
        self.assertEqual(self.heads((HIS, HERS), 7), (0, 1))
        self.assertEqual(self.heads((HIS,), 0), (-1,))

    def test_nobody_who_sits(self):
        book = (("dies", 9, 0, -1),)
        self.assertEqual(self.heads((HIS, HERS), 9, book=book), (-1, 1))
        self.assertEqual(self.heads((HIS, HERS), 20, book=book), (2, 1))
        self.assertEqual(self.heads((HIS, HERS), LAST, HOUSE[:2], (("dies", 9, 0, -1), ("dies", 9, 1, -1))), (-1, -1))

    def test_as_sitter_at(self):
        dice = Dice(351)
        for house, book, rule, day in some_thrones(352, 100, 8):
            rules = (rule,) + tuple(some_rule(dice, house) for _ in range(dice.below(6)))
            for asked in (0, day, day + 5):
                told = self.heads(rules, asked, house, book)
                self.assertEqual(told, tuple(sitter_at(house, book, one, asked) for one in rules))


class Unions(unittest.TestCase):
    def on_both(self, one, other, until, house=HOUSE, book=BOOK):
        check_book(house, book)
        told = unions(house, book, one, other, until)
        self.assertTrue(is_plain(told))
        self.assertEqual(told, unions(house, book, other, one, until))
        return told

    def test_two_rules(self):
        # 2 comes to the one throne on 50, to the other one on 60, and dies on 70.
        self.assertEqual(self.on_both(HIS, HERS, LAST), ((60, 2), (70, -1)))

    def test_until(self):
        self.assertEqual(self.on_both(HIS, HERS, 59), ())
        self.assertEqual(self.on_both(HIS, HERS, 60), ((60, 2),))
        self.assertEqual(self.on_both(HIS, HERS, 69), ((60, 2),))
        self.assertEqual(self.on_both(HIS, HERS, 70), ((60, 2), (70, -1)))

    def test_a_rule_and_itself(self):
        self.assertEqual(self.on_both(HIS, HIS, LAST), reigns(HOUSE, BOOK, HIS, LAST))
        self.assertEqual(self.on_both(HERS, HERS, LAST), ((7, 1), (60, 2), (70, 4)))
        # Where nobody sits at the beginning, nothing is told of it.
        book = (("dies", 5, 0, -1),)
        self.assertEqual(reigns(HOUSE, book, HIS, 20), ((5, -1), (20, 2)))
        self.assertEqual(self.on_both(HIS, HIS, 20, book=book), ((20, 2),))
        self.assertEqual(self.on_both(HIS, HIS, 19, book=book), ())

    def test_another_one_on_both(self):
        book = (("dies", 60, 0, -1), ("dies", 70, 2, -1))
        self.assertEqual(self.on_both(ALIKE, ALIKE, 80, FAMILY, book), ((0, 0), (60, 2), (70, 5)))
        self.assertEqual(self.on_both(ALIKE, FIRST, 80, FAMILY, book), ((0, 0), (60, -1)))
        # Where the elder daughter's line is gone, the son is the next one by both.
        both_gone = (("dies", 60, 0, -1), ("dies", 60, 2, -1), ("dies", 60, 5, -1), ("dies", 60, 7, -1))
        self.assertEqual(self.on_both(ALIKE, FIRST, 80, FAMILY, both_gone), ((0, 0), (60, -1)))
        both_gone += (("dies", 60, 8, -1),)
        self.assertEqual(self.on_both(ALIKE, FIRST, 80, FAMILY, both_gone), ((0, 0), (60, 3)))

    def test_nobody_on_both_and_somebody_again(self):
        # 2 leaves both thrones, and comes back to the one on 90, to the other one on 95.
        book = (("dies", 50, 0, -1), ("dies", 60, 1, -1), ("dies", 90, 3, -1), ("dies", 95, 4, -1),
                ("leaves", 70, 2, -1), ("returns", 80, 2, -1))
        self.assertEqual(self.on_both(HIS, HERS, 100, book=book), ((60, 2), (70, -1), (95, 2)))

    def test_both_bare_is_nobody(self):
        book = (("dies", 50, 0, -1), ("dies", 60, 1, -1), ("dies", 70, 2, -1), ("dies", 70, 3, -1), ("dies", 70, 4, -1))
        self.assertEqual(self.on_both(HIS, HERS, LAST, book=book), ((60, 2), (70, -1)))
        self.assertEqual(heads_at(HOUSE, book, (HIS, HERS), 70), (-1, -1))

    def test_somebody_on_the_day_0(self):
        self.assertEqual(self.on_both(ALIKE, FIRST, 0, FAMILY, ()), ((0, 0),))
        self.assertEqual(self.on_both(ALIKE, FIRST, LAST, FAMILY, ()), ((0, 0),))
        self.assertEqual(self.on_both(ALIKE, FIRST, 0, FAMILY, (("dies", 0, 0, -1),)), ())

    def test_ahead_of_the_beginnings(self):
        for until in (0, 4, 5, 6, 7):
            self.assertEqual(self.on_both(HIS, HERS, until), ())
        self.assertEqual(self.on_both(HIS, HIS, 4), ())
        self.assertEqual(self.on_both(HIS, HIS, 5), ((5, 0),))

    def test_day_by_day(self):
        dice = Dice(353)
        told = 0
        for scale, many in ((14, 150), (200, 40)):
            for house, book, rule, day in some_thrones(354 + scale, many, 8, scale, 14):
                other = dice.one_of((rule, some_rule(dice, house), some_rule(dice, house), rule[:1], rule[::-1][:1]))
                until = day + dice.below(scale)
                pairs = self.on_both(rule, other, until, house, book)
                self.assertEqual(pairs, self.by_words(house, book, rule, other, until))
                told += len(pairs)
        self.assertGreater(told, 150)

    def by_words(self, house, book, one, other, until):
        sitters = [
            {day: sits for day, sits, last in slow_thrones.seats(house, book, rule, until)} for rule in (one, other)]
        pairs, before = [], -1
        for day in range(until + 1):
            first, second = (seats.get(day, -1) for seats in sitters)
            now = first if first == second else -1
            if now != before:
                pairs.append((day, now))
            before = now
        return tuple(pairs)


class Large(unittest.TestCase):
    def test_sixty_and_sixty(self):
        dice = Dice(355)
        for _ in range(4):
            house = some_house(dice, 60, 400)
            book = some_whole_book(dice, house, 60, 400)
            rules = tuple(some_rule(dice, house) for _ in range(6))
            self.assertEqual(len(heads_at(house, book, rules, LAST)), 6)
            self.assertEqual(unions(house, book, rules[0], rules[1], LAST), unions(house, book, rules[1], rules[0], LAST))

    def test_one_dies_after_another(self):
        house = ladder(60)
        book = tuple(sorted(("dies", 100 + who, who, -1) for who in range(60)))
        pairs = tuple((100 + who, who + 1) for who in range(59))
        told = unions(house, book, ((0, "alike", 0, "lines"),), ((0, "alike", 0, "age"),), LAST)
        self.assertEqual(told, ((0, 0),) + pairs + ((159, -1),))


if __name__ == "__main__":
    unittest.main()
