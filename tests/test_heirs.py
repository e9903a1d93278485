"""Points [21] and [22]: the heir beside who sits, sure or open; and [3] (h), its last words."""

import unittest

from tests import slow_thrones
from tests.makers import (
    FAMILY, LAST, MEN, WAYS, Dice, is_plain, ladder, row_of, some_awaits, some_house, some_rule, some_thrones,
    some_whole_book)
from thronewalk.folk import born_by, check_house
from thronewalk.heirs import heir_of
from thronewalk.news import book_up_to, check_book
from thronewalk.orders import order_of
from thronewalk.rules import check_rule
from thronewalk.sures import right_sure

LINES = (0, "alike", 0, "lines")
FIRST = (0, "first", 0, "lines")
AGE = (0, "alike", 0, "age")
NEAR = (0, "alike", 0, "near")
REACH = ((0, -1), (2, 0), (3, 0), (4, 0), (5, 2), (6, 3), (7, 5), (8, 2), (9, 4))

# A founder, two sons of his, a widow beside them, and a son of the first son.
SONS = ((0, -1, -1, 1, 1), (5, 0, -1, 1, 1), (6, 0, -1, 1, 1), (7, -1, -1, 0, 1), (9, 1, -1, 1, 1))


class Asking(unittest.TestCase):
    def tells(self, house, book, rule, day, sits):
        check_house(house)
        check_book(house, book)
        check_rule(house, rule)
        told = heir_of(house, book, rule, day, sits)
        self.look_over(house, book, rule, day, sits, told)
        return told

    def look_over(self, house, book, rule, day, sits, told):
        """What is asked of each answer, whatever it is."""
        self.assertTrue(is_plain(told))
        others = [who for who in order_of(house, book, rule, day, sits) if who != sits]
        if not others:
            self.assertEqual(told, ("nobody",))
            return
        word, who, proof = told
        self.assertEqual(who, others[0])
        if word == "sure":
            self.assertIs(right_sure(house, book, rule, day, sits, who, proof), True)
        else:
            self.assertEqual(word, "open")
            self.assertIn(proof, slow_thrones.births(house, book, day))
            born = house[:born_by(house, day)]
            order = order_of(born + (proof,), book_up_to(book, day), rule, day + 1, sits)
            self.assertIn(len(born), order[:order.index(who)])


class Nobody(Asking):
    def test_alone(self):
        for men in MEN:
            for way in WAYS:
                self.assertEqual(self.tells(FAMILY[:1], (), ((0, men, 0, way),), 50, 0), ("nobody",))

    def test_all_others_are_gone(self):
        house = FAMILY[:4]
        book = (("dies", 30, 2, -1), ("leaves", 40, 3, -1))
        self.assertEqual(self.tells(house, book, (LINES,), 39, 0)[:2], ("sure", 3))
        self.assertEqual(self.tells(house, book, (LINES,), 40, 0), ("nobody",))
        self.assertEqual(self.tells(house, book, (LINES,), 40, 1)[:2], ("sure", 0))
        self.assertEqual(self.tells(house, book, (LINES,), 40, 3)[:2], ("sure", 0))

    def test_nobody_at_all(self):
        house = FAMILY[:2]
        book = (("dies", 30, 0, -1),)
        for sits in (0, 1):
            self.assertEqual(self.tells(house, book, (LINES, AGE, NEAR), 30, sits), ("nobody",))

    def test_daughters_where_only_men_stand(self):
        house = ((0, -1, -1, 1, 1), (5, 0, -1, 0, 1), (6, 0, -1, 0, 1))
        self.assertEqual(self.tells(house, (), ((0, "only", 0, "age"),), 50, 0), ("nobody",))

    def test_unwed_where_the_wed_alone_count(self):
        house = ((0, -1, -1, 1, 1), (5, 0, -1, 1, 0))
        self.assertEqual(self.tells(house, (), ((0, "alike", 1, "age"),), 50, 0), ("nobody",))
        self.assertEqual(self.tells(house, (), ((0, "alike", 0, "age"),), 50, 0)[:2], ("sure", 1))


class Sure(Asking):
    def test_by_lines(self):
        self.assertEqual(self.tells(FAMILY, (), (LINES,), 90, 0), ("sure", 2, (("lines", (0, 2), (0,)),)))
        self.assertEqual(self.tells(FAMILY, (), (FIRST,), 90, 0), ("sure", 3, (("lines", (0, 3), (0,)),)))
        self.assertEqual(self.tells(FAMILY, (), (LINES,), 90, 9), ("sure", 0, (("lines", (0,), ()),)))
        dead = (("dies", 80, 0, -1),)
        self.assertEqual(self.tells(FAMILY, dead, (LINES,), 90, 2), ("sure", 5, (("lines", (0, 2, 5), (0, 2)),)))

    def test_by_age(self):
        # Of these the paper has some one of several reaches.
        for sits, heir in ((0, 2), (2, 0), (9, 0)):
            told = self.tells(FAMILY, (), (AGE,), 90, sits)
            self.assertEqual(told[:2], ("sure", heir))
            self.assertEqual([pair[0] for pair in told[2][0][1]], [pair[0] for pair in REACH])

    def test_by_nearness(self):
        for sits, heir in ((0, 2), (2, 0), (7, 5), (9, 4)):
            self.assertEqual(self.tells(FAMILY, (), (NEAR,), 90, sits)[:2], ("sure", heir))

    def test_behind_rows_of_nobody(self):
        # Neither 9, who is cut, nor 1, who is dead, can have one that counts.
        book = (("cuts", 75, 9, -1), ("dies", 75, 1, -1))
        rule = ((9, "alike", 0, "near"), (1, "only", 0, "age"), AGE)
        told = self.tells(FAMILY, book, rule, 90, 0)
        self.assertEqual(told[:2], ("sure", 2))
        # 1's children are steps by no row with men "only".
        self.assertEqual(told[2][:2], (("nobody", ((9, -1),)), ("nobody", ((1, -1),))))
        self.assertEqual(told[2][2][0], "age")


class Open(Asking):
    def test_men_first_and_an_heir_who_is_no_man(self):
        house = ((0, -1, -1, 1, 1), (5, 0, -1, 0, 1))
        self.assertEqual(self.tells(house, (), (FIRST,), 50, 0), ("open", 1, (51, 0, -1, 1, 1)))
        self.assertEqual(self.tells(house, (), (LINES,), 50, 0), ("sure", 1, (("lines", (0, 1), (0,)),)))
        # By age and by nearness men "first" ranks nobody.
        self.assertEqual(self.tells(house, (), ((0, "first", 0, "age"),), 50, 0)[:2], ("sure", 1))
        self.assertEqual(self.tells(house, (), ((0, "first", 0, "near"),), 50, 0)[:2], ("sure", 1))
        for word, told in (("dies", "sure"), ("cuts", "sure"), ("leaves", "open")):
            self.assertEqual(self.tells(house, ((word, 50, 0, -1),), (FIRST,), 50, 0)[0], told)

    def test_men_first_further_up_the_line(self):
        house = ((0, -1, -1, 1, 1), (5, 0, -1, 0, 1), (9, -1, 1, 1, 1))
        self.assertEqual(self.tells(house, (("leaves", 20, 0, -1),), (FIRST,), 50, 1), ("open", 2, (51, 0, -1, 1, 1)))
        self.assertEqual(self.tells(house, (("dies", 20, 0, -1),), (FIRST,), 50, 1)[:2], ("sure", 2))

    def test_sits_has_no_child_yet(self):
        dead = ("dies", 20, 0, -1)
        house = SONS[:4]
        self.assertEqual(self.tells(house, (dead,), (LINES,), 50, 1), ("open", 2, (51, 1, -1, 1, 1)))
        self.assertEqual(self.tells(house, (("cuts", 50, 1, -1), dead), (LINES,), 50, 1)[:2], ("sure", 2))
        # The one who sits is behind the heir.
        self.assertEqual(self.tells(house, (dead,), (LINES,), 50, 2)[:2], ("sure", 1))

    def test_by_nearness(self):
        dead = ("dies", 20, 0, -1)
        house = SONS[:4]
        # The brother is two goings away; a child would be one.
        self.assertEqual(self.tells(house, (dead,), (NEAR,), 50, 1), ("open", 2, (51, 1, -1, 1, 1)))
        self.assertEqual(self.tells(house, (dead,), (NEAR,), 50, 2), ("open", 1, (51, 2, -1, 1, 1)))
        self.assertEqual(self.tells(house, (dead, ("dies", 30, 1, -1)), (NEAR,), 50, 1)[:2], ("sure", 2))
        # One who is as near, and older, is the heir.
        self.assertEqual(self.tells(SONS, (dead,), (NEAR,), 50, 1)[:2], ("sure", 4))

    def test_the_wed_alone_count_and_the_birth_is_wed(self):
        house = ((0, -1, -1, 1, 1), (5, 0, -1, 0, 1))
        rule = ((0, "first", 1, "lines"),)
        self.assertEqual(self.tells(house, (), rule, 50, 0), ("open", 1, (51, 0, -1, 1, 1)))
        # One who was not born in wedlock isn't reached, so a child of theirs doesn't count.
        house = ((0, -1, -1, 1, 1), (5, 0, -1, 1, 0), (9, 0, -1, 1, 1))
        dead = (("dies", 20, 0, -1),)
        self.assertEqual(self.tells(house, dead, ((0, "alike", 0, "lines"),), 50, 1), ("open", 2, (51, 1, -1, 1, 1)))
        self.assertEqual(self.tells(house, dead, ((0, "alike", 1, "lines"),), 50, 1)[:2], ("sure", 2))

    def test_men_only(self):
        # A daughter doesn't stand, and her sons don't count.
        house = ((0, -1, -1, 1, 1), (5, 0, -1, 0, 1), (6, 0, -1, 1, 1), (7, 0, -1, 1, 1))
        dead = ("dies", 20, 0, -1)
        rule = ((0, "only", 0, "lines"),)
        self.assertEqual(self.tells(house, (dead,), rule, 50, 1)[:2], ("sure", 2))
        self.assertEqual(self.tells(house, (dead,), rule, 50, 2), ("open", 3, (51, 2, -1, 1, 1)))
        self.assertEqual(self.tells(house, (dead,), (LINES,), 50, 1), ("open", 2, (51, -1, 1, 1, 1)))

    def test_a_row_ahead_in_which_nobody_is_but_may_be(self):
        house = ((0, -1, -1, 1, 1), (0, -1, -1, 0, 1), (9, 0, -1, 1, 1))
        for way in WAYS:
            rule = ((1, "alike", 0, way), AGE)
            self.assertEqual(self.tells(house, (), rule, 50, 1), ("open", 0, (51, -1, 1, 1, 1)))
            self.assertEqual(self.tells(house, (("dies", 50, 1, -1),), rule, 50, 1)[:2], ("sure", 0))
            three = ((1, "only", 0, way), (1, "alike", 1, way), AGE)
            self.assertEqual(self.tells(house, (), three, 50, 1), ("open", 0, (51, -1, 1, 1, 1)))
            left = (("leaves", 40, 1, -1),)
            self.assertEqual(self.tells(house, left, three, 50, 2), ("open", 0, (51, -1, 1, 1, 1)))
            only = ((1, "only", 0, way), (1, "only", 1, way), AGE)
            self.assertEqual(self.tells(house, (), only, 50, 1)[:2], ("sure", 0))


class Awaited(Asking):
    BOOK = (("awaits", 40, 3, 1), ("dies", 20, 0, -1), ("dies", 50, 1, -1))

    def test_of_a_dead_father(self):
        # The widow isn't reached: it is the dead father by whom the child would count.
        house = SONS[:4]
        for day in (50, 339):
            self.assertEqual(self.tells(house, self.BOOK, (LINES,), day, 1), ("open", 2, (day + 1, 1, 3, 1, 1)))
            self.assertEqual(self.tells(house, self.BOOK, (NEAR,), day, 1), ("open", 2, (day + 1, 1, 3, 1, 1)))
        self.assertEqual(self.tells(house, self.BOOK, (LINES,), 340, 1)[:2], ("sure", 2))
        self.assertEqual(self.tells(house, self.BOOK, (AGE,), 339, 1)[:2], ("sure", 2))

    def test_while_the_father_lives(self):
        told = self.tells(SONS[:4], self.BOOK, (LINES,), 49, 1)
        self.assertIn(told, (("open", 2, (50, 1, 3, 1, 1)), ("open", 2, (50, 1, -1, 1, 1))))

    def test_of_a_dead_mother_nothing_is_awaited(self):
        book = self.BOOK + (("dies", 60, 3, -1),)
        self.assertEqual(self.tells(SONS[:4], book, (LINES,), 59, 1), ("open", 2, (60, 1, 3, 1, 1)))
        self.assertEqual(self.tells(SONS[:4], book, (LINES,), 60, 1)[:2], ("sure", 2))

    def test_born_already(self):
        house = SONS[:4] + ((70, 1, 3, 1, 1),)
        self.assertEqual(self.tells(house, self.BOOK, (LINES,), 69, 1), ("open", 2, (70, 1, 3, 1, 1)))
        self.assertEqual(self.tells(house, self.BOOK, (LINES,), 70, 1), ("sure", 4, (("lines", (0, 1, 4), (0, 1)),)))

    def test_of_nobody_known(self):
        book = (("awaits", 40, 3, -1),) + self.BOOK[1:]
        self.assertEqual(self.tells(SONS[:4], book, (LINES,), 60, 1)[:2], ("sure", 2))

    def test_of_one_who_is_cut(self):
        book = (self.BOOK[0], ("cuts", 45, 1, -1)) + self.BOOK[1:]
        self.assertEqual(self.tells(SONS[:4], book, (LINES,), 60, 1)[:2], ("sure", 2))

    def test_the_last_of_several(self):
        # All others are cut, so that no other birth puts anybody ahead.
        book = (("awaits", 40, 3, -1), ("awaits", 41, 3, 0), ("awaits", 42, 3, 1), ("cuts", 30, 0, -1)) + self.BOOK[1:]
        self.assertEqual(self.tells(SONS[:4], book, (LINES,), 60, 1), ("open", 2, (61, 1, 3, 1, 1)))


class WhoSits(Asking):
    def test_dead(self):
        # Last is last, whatever befell them.
        book = (("dies", 20, 0, -1), ("dies", 30, 1, -1))
        self.assertEqual(self.tells(SONS, book, (NEAR,), 50, 1)[:2], ("sure", 4))
        self.assertEqual(self.tells(SONS, book, (LINES,), 50, 1)[:2], ("sure", 4))
        self.assertEqual(self.tells(SONS, book, (AGE,), 50, 0)[:2], ("sure", 2))

    def test_out(self):
        book = (("dies", 20, 0, -1), ("leaves", 30, 1, -1))
        self.assertEqual(self.tells(SONS[:4], book, (LINES,), 50, 1), ("open", 2, (51, 1, -1, 1, 1)))
        self.assertEqual(self.tells(SONS, book, (LINES,), 50, 1)[:2], ("sure", 4))
        book = (("cuts", 30, 1, -1),) + book[:1]
        self.assertEqual(self.tells(SONS, book, (LINES,), 50, 1)[:2], ("sure", 4))
        self.assertEqual(self.tells(SONS[:4], book, (LINES,), 50, 1)[:2], ("sure", 2))

    def test_not_reached(self):
        self.assertEqual(self.tells(SONS, (), (LINES,), 50, 3)[:2], ("sure", 0))
        self.assertEqual(self.tells(SONS, (), (NEAR,), 50, 3)[:2], ("sure", 0))
        # All degrees are -1 then, and numbers go ahead.
        left = (("leaves", 30, 0, -1), ("leaves", 30, 1, -1))
        self.assertEqual(self.tells(SONS, left, (NEAR,), 50, 3)[:2], ("sure", 2))
        self.assertEqual(self.tells(SONS[:4], left, (LINES,), 50, 3), ("open", 2, (51, 1, -1, 1, 1)))

    def test_the_heir_is_never_sits(self):
        for house, book, rule, day in some_thrones(301, 80, 8):
            for sits in range(born_by(house, day)):
                told = heir_of(house, book, rule, day, sits)
                self.assertTrue(told == ("nobody",) or told[1] != sits)


class Days(Asking):
    def test_the_beginning(self):
        house = ((0, -1, -1, 1, 1), (7, 0, -1, 1, 1), (7, 0, -1, 0, 1), (9, 1, -1, 1, 1))
        rule = ((1, "first", 0, "lines"), LINES)
        self.assertEqual(self.tells(house, (), rule, 7, 1), ("open", 0, (8, 1, -1, 1, 1)))
        self.assertEqual(self.tells(house, (), rule, 9, 1)[:2], ("sure", 3))
        self.assertEqual(self.tells(FAMILY, (), (LINES,), 0, 0), ("nobody",))

    def test_the_last_day(self):
        house = ((0, -1, -1, 1, 1), (5, 0, -1, 0, 1), (LAST, 0, -1, 1, 1))
        told = self.tells(house, (), (FIRST,), LAST - 1, 0)
        self.assertEqual(told, ("open", 1, (LAST, 0, -1, 1, 1)))

    def test_nothing_hangs_on_what_befalls_behind_it(self):
        house = ((0, -1, -1, 1, 1), (5, 0, -1, 0, 1), (51, 0, -1, 1, 1))
        book = (("dies", 51, 0, -1), ("leaves", 51, 1, -1))
        self.assertEqual(self.tells(house, book, (FIRST,), 50, 0), ("open", 1, (51, 0, -1, 1, 1)))
        for house, book, rule, day in some_thrones(302, 80, 8, 12, 14):
            born, so_far = house[:born_by(house, day)], book_up_to(book, day)
            for sits in range(len(born)):
                told = heir_of(house, book, rule, day, sits)
                self.assertEqual(told, heir_of(born, so_far, rule, day, sits))
                self.assertEqual(told, heir_of(house, book, rule, day, sits))


class Large(Asking):
    def test_sixty_and_the_child(self):
        # Fifty-nine daughters of whom the first is the heir.
        house = ((0, -1, -1, 1, 1),) + tuple((at, 0, -1, 0, 1) for at in range(1, 60))
        self.assertEqual(self.tells(house, (), (FIRST,), 90, 0), ("open", 1, (91, 0, -1, 1, 1)))
        self.assertEqual(self.tells(house, (), (LINES,), 90, 0)[:2], ("sure", 1))
        self.assertEqual(self.tells(row_of(60), (), (LINES,), LAST - 1, 0), ("nobody",))
        self.assertEqual(self.tells(ladder(60), (), (LINES,), 90, 0)[:2], ("sure", 1))

    def test_sixty_and_sixty(self):
        dice = Dice(303)
        for _ in range(6):
            house = some_house(dice, 60, 300)
            news = set(some_whole_book(dice, house, 40, 300))
            while len(news) < 60:
                news.add(some_awaits(dice, house, 300))
            book = tuple(sorted(news))
            rule = some_rule(dice, house)
            for sits in range(0, born_by(house, 250), 12):
                self.tells(house, book, rule, 250, sits)

    def test_the_very_last_birth_of_all(self):
        # The one birth that counts is that of the last "awaits"; all who could have another one are dead or cut.
        house = [(0, -1, -1, 1, 1), (1, -1, -1, 0, 1), (2, 0, -1, 1, 1), (3, 0, -1, 1, 1)]
        house = tuple(house + [(4, -1, -1, 0, 1)] * 56)
        news = [("awaits", 10, who, -1) for who in range(5, 60)] + [("awaits", 11, 1, 2)]
        news += [("dies", 9, 0, -1), ("dies", 12, 2, -1)]
        self.assertEqual(
            self.tells(house, tuple(sorted(news)), (LINES, AGE, NEAR), 90, 2), ("open", 3, (91, 2, 1, 1, 1)))


class AsTheWordsSay(Asking):
    def test_one_of_the_two_and_never_both(self):
        told = {"nobody": 0, "sure": 0, "open": 0}
        for scale, many in ((12, 250), (400, 120)):
            for house, book, rule, day in some_thrones(311 + scale, many, 8, scale, 14):
                for sits in range(born_by(house, day)):
                    answer = self.tells(house, book, rule, day, sits)
                    told[answer[0]] += 1
                    who = slow_thrones.heir(house, book, rule, day, sits)
                    if who == -1:
                        self.assertEqual(answer, ("nobody",))
                        continue
                    self.assertEqual(answer[1], who)
                    passing = [
                        birth for birth in slow_thrones.births(house, book, day)
                        if slow_thrones.is_passed_by(house, book, rule, day, sits, who, birth)]
                    if answer[0] == "sure":
                        self.assertTrue(slow_thrones.is_sure_paper(house, book, rule, day, sits, who, answer[2]))
                        self.assertEqual(passing, [])
                    else:
                        self.assertIn(answer[2], passing)
        self.assertGreater(min(told.values()), 50)

    def test_families_in_which_much_is_open(self):
        dice = Dice(312)
        of_two = 0
        for _ in range(150):
            folk = [(0, -1, -1, 1, 1), (0, -1, -1, 0, 1)]
            folk += [(5, dice.one_of((0, 0, -1)), -1, dice.one_of((0, 1, 1)), 1) for _ in range(3)]
            house = tuple(folk)
            awaited = [("awaits", 6, who, other) for who in range(5) for other in range(5)
                       if house[who][3] == 0 and house[other][3] == 1 and dice.below(3) == 0]
            gone = [(dice.one_of(("dies", "dies", "cuts")), 7, who, -1) for who in range(5)
                    if dice.below(4) < 1 + 2 * house[who][3]]
            book = tuple(sorted(awaited + gone))
            for rule in (((0, dice.one_of(MEN), 1, dice.one_of(WAYS)),), ((1, "alike", 0, dice.one_of(WAYS)), LINES)):
                for sits in range(5):
                    told = self.tells(house, book, rule, 8, sits)
                    of_two += told[0] == "open" and -1 not in told[2]
        self.assertGreater(of_two, 10)


if __name__ == "__main__":
    unittest.main()
