"""Point [22]: papers of a sure heir, looked over; and [3] (h)."""

import unittest

from tests import slow_thrones
from tests.makers import (
    FAMILY, LAST, ODD_THINGS, Dice, as_truths, changed, ladder, listed, row_of, some_house, some_rule, some_thrones,
    some_whole_book)
from thronewalk.folk import born_by, check_house
from thronewalk.news import book_up_to, check_book, is_dead, is_out
from thronewalk.orders import first_of, order_of
from thronewalk.placing import place_of
from thronewalk.reach import reach_of
from thronewalk.sures import right_sure

LINES = (0, "alike", 0, "lines")
FIRST = (0, "first", 0, "lines")
AGE = (0, "alike", 0, "age")
NEAR = (0, "alike", 0, "near")

REACH = ((0, -1), (2, 0), (3, 0), (4, 0), (5, 2), (6, 3), (7, 5), (8, 2), (9, 4))


def paper_of_heir(house, book, rule, day, sits):
    """The heir beside sits, and the only paper (but for its reaches) that could be a sure paper of it."""
    parts = ()
    for row in rule:
        order = [who for who in order_of(house, book, (row,), day, sits) if who != sits]
        if not order:
            parts += (("nobody", reach_of(house, book, row, day)),)
        elif row[3] == "lines":
            return order[0], parts + (("lines",) + place_of(house, book, row, day, order[0]),)
        else:
            return order[0], parts + ((row[3], reach_of(house, book, row, day)),)
    return -1, parts


class Looking(unittest.TestCase):
    def says(self, rule, sits, who, thing, book=(), day=90, house=FAMILY):
        check_house(house)
        check_book(house, book)
        told = right_sure(house, book, rule, day, sits, who, thing)
        self.assertIs(type(told), bool)
        return told


class ByLines(Looking):
    def test_the_first_child(self):
        self.assertTrue(self.says((LINES,), 0, 2, (("lines", (0, 2), (0,)),)))
        self.assertTrue(self.says(((0, "only", 0, "lines"),), 0, 3, (("lines", (0, 3), (0, 2)),)))

    def test_sits_is_left_out_of_those_who_stand(self):
        place = (("lines", (0, 2, 5), (0, 2)),)
        self.assertTrue(self.says((LINES,), 2, 5, place, (("dies", 80, 0, -1),)))
        self.assertFalse(self.says((LINES,), 3, 5, place, (("dies", 80, 0, -1),)))
        self.assertFalse(self.says((LINES,), 2, 5, place))
        self.assertFalse(self.says((LINES,), 0, 5, place))

    def test_who_is_sits(self):
        self.assertFalse(self.says((LINES,), 0, 0, (("lines", (0,), ()),)))
        self.assertTrue(self.says((LINES,), 2, 0, (("lines", (0,), ()),)))
        self.assertFalse(self.says((AGE,), 0, 0, (("age", REACH),)))
        self.assertFalse(self.says((NEAR,), 0, 0, (("near", REACH),)))

    def test_one_ahead_who_is_not_in_the_line_may_have_a_child(self):
        # 2 and all of hers are ahead of 3, and don't stand.
        house = FAMILY[:5]
        place = (("lines", (0, 3), (0, 2)),)
        for word, right in (("dies", True), ("leaves", False), ("cuts", True)):
            self.assertEqual(self.says((LINES,), 0, 3, place, ((word, 80, 2, -1),), house=house), right)

    def test_sits_ahead_and_not_in_the_line(self):
        # Sits left; a child of theirs would come ahead of the brother.
        house = FAMILY[:5]
        place = (("lines", (0, 3), (0, 2)),)
        dead = ("dies", 70, 0, -1)
        self.assertFalse(self.says((LINES,), 2, 3, place, (dead,), house=house))
        self.assertFalse(self.says((LINES,), 2, 3, place, (dead, ("leaves", 80, 2, -1)), house=house))
        self.assertTrue(self.says((LINES,), 2, 3, place, (dead, ("dies", 80, 2, -1)), house=house))
        self.assertTrue(self.says((LINES,), 2, 3, place, (("cuts", 80, 2, -1), dead), house=house))
        # By "only", one who is no man has none that counts.
        only = ((0, "only", 0, "lines"),)
        self.assertTrue(self.says(only, 2, 3, place, (dead,), house=house))

    def test_dead_ahead_but_awaited(self):
        house = ((0, -1, -1, 1, 1), (0, -1, -1, 0, 1), (5, 0, -1, 1, 1), (6, 0, -1, 1, 1))
        place = (("lines", (0, 3), (0, 2)),)
        dead = ("dies", 80, 2, -1)
        self.assertTrue(self.says((LINES,), 0, 3, place, (dead,), house=house))
        self.assertFalse(self.says((LINES,), 0, 3, place, (("awaits", 70, 1, 2), dead), house=house))
        self.assertTrue(self.says((LINES,), 0, 3, place, (("awaits", 70, 1, 0), dead), house=house))
        self.assertTrue(self.says((LINES,), 0, 3, place, (("awaits", 70, 1, 2), dead), 370, house))
        self.assertFalse(self.says((LINES,), 0, 3, place, (("awaits", 70, 1, 2), dead), 369, house))

    def test_men_first_and_a_next_one_who_is_no_man(self):
        house = ((0, -1, -1, 1, 1), (5, 0, -1, 0, 1), (9, -1, 1, 1, 1))
        of_daughter = (("lines", (0, 1), (0,)),)
        self.assertFalse(self.says((FIRST,), 0, 1, of_daughter, house=house))
        self.assertTrue(self.says((LINES,), 0, 1, of_daughter, house=house))
        self.assertFalse(self.says((FIRST,), 0, 1, of_daughter, (("leaves", 80, 0, -1),), house=house))
        self.assertTrue(self.says((FIRST,), 0, 1, of_daughter, (("cuts", 80, 0, -1),), house=house))
        self.assertTrue(self.says((FIRST,), 0, 1, of_daughter, (("dies", 80, 0, -1),), house=house))
        # Further down the line, where the next one is a man, she may have another one.
        of_grandson = (("lines", (0, 1, 2), (0, 1)),)
        self.assertFalse(self.says((FIRST,), 1, 2, of_grandson, house=house))
        self.assertTrue(self.says((FIRST,), 1, 2, of_grandson, (("dies", 80, 0, -1),), house=house))
        self.assertFalse(self.says((FIRST,), 1, 2, of_grandson, (("leaves", 80, 0, -1),), house=house))
        # The heir's own children, of whom there's no next one, come behind.
        son = ((0, -1, -1, 1, 1), (5, 0, -1, 1, 1), (9, 1, -1, 1, 1))
        self.assertTrue(self.says((FIRST,), 0, 1, (("lines", (0, 1), (0,)),), house=son))

    def test_no_place(self):
        for line, ahead in (((0, 2), ()), ((0, 2), (0, 3)), ((2,), ()), ((0,), ()), ((0, 3), (0,)), ((), ())):
            self.assertFalse(self.says((LINES,), 0, 2, (("lines", line, ahead),)))

    def test_who_does_not_stand(self):
        self.assertFalse(self.says((LINES,), 0, 2, (("lines", (0, 2), (0,)),), (("leaves", 80, 2, -1),)))
        self.assertFalse(self.says(((0, "only", 0, "lines"),), 0, 2, (("lines", (0, 2), (0,)),)))


class ByAge(Looking):
    def test_no_birth_is_older(self):
        self.assertTrue(self.says((AGE,), 0, 2, (("age", REACH),)))
        self.assertTrue(self.says((AGE,), 5, 0, (("age", REACH),)))
        self.assertTrue(self.says((AGE,), 2, 3, (("age", REACH),), (("dies", 80, 0, -1),)))
        self.assertTrue(self.says(((0, "first", 0, "age"),), 0, 2, (("age", REACH),)))

    def test_a_lesser_number_that_stands(self):
        self.assertFalse(self.says((AGE,), 0, 3, (("age", REACH),)))
        self.assertFalse(self.says((AGE,), 2, 3, (("age", REACH),)))
        self.assertFalse(self.says((AGE,), 1, 2, (("age", REACH),)))

    def test_no_reach(self):
        for reach in ((), REACH[:8], REACH[1:], REACH + ((10, 9),), REACH[::-1], ((0, -1),), list(REACH)):
            self.assertFalse(self.says((AGE,), 0, 2, (("age", reach),)))


class ByNearness(Looking):
    # The founder, two sons, and a grandson of the first one.
    HOUSE = ((0, -1, -1, 1, 1), (5, 0, -1, 1, 1), (6, 0, -1, 1, 1), (9, 1, -1, 1, 1))
    PART = (("near", ((0, -1), (1, 0), (2, 0), (3, 1))),)

    def of(self, sits, who, *book, row=NEAR, day=90):
        return self.says((row,), sits, who, self.PART, tuple(sorted(book)), day, self.HOUSE)

    def test_not_below(self):
        # A child of who sits would have the degree 1, like their eldest: it isn't below.
        self.assertTrue(self.of(0, 1))
        self.assertTrue(self.of(1, 0))
        self.assertTrue(self.of(2, 0))
        self.assertTrue(self.of(3, 1))

    def test_below(self):
        # 2 is two goings from 1; a child of 1 would be one.
        gone = (("dies", 80, 0, -1), ("dies", 80, 3, -1))
        self.assertFalse(self.of(1, 2, *gone))
        self.assertTrue(self.of(1, 2, *gone, ("cuts", 80, 1, -1)))
        self.assertFalse(self.of(1, 2, *gone, ("leaves", 80, 1, -1)))
        self.assertTrue(self.of(1, 2, *gone, ("dies", 80, 1, -1)))

    def test_one_more(self):
        # 3 is three goings from 2: a child of the founder, of 2 itself, would be nearer; one of 1 would not.
        gone = [("dies", 80, 0, -1), ("dies", 80, 2, -1), ("leaves", 80, 1, -1)]
        self.assertTrue(self.of(2, 3, *gone))
        self.assertFalse(self.of(2, 3, ("leaves", 80, 0, -1), *gone[1:]))
        self.assertFalse(self.of(2, 3, *gone[:1], gone[2]))
        self.assertFalse(self.of(2, 3, *gone[:2]))

    def test_a_lesser_degree_or_a_like_one_and_a_lesser_number(self):
        self.assertFalse(self.of(0, 2))
        self.assertFalse(self.of(0, 3))
        self.assertFalse(self.of(3, 0))
        self.assertFalse(self.of(1, 3))
        self.assertTrue(self.of(1, 3, ("dies", 80, 0, -1)))

    def test_sits_who_is_not_reached(self):
        house = ((0, -1, -1, 1, 1),) + ((1, -1, -1, 1, 1), (5, 0, -1, 1, 1), (9, 2, -1, 1, 1))
        part = (("near", ((0, -1), (2, 0), (3, 2))),)
        self.assertTrue(self.says((NEAR,), 1, 0, part, house=house))
        self.assertFalse(self.says((NEAR,), 1, 2, part, house=house))
        self.assertTrue(self.says((NEAR,), 1, 2, part, (("leaves", 80, 0, -1),), house=house))

    def test_no_reach(self):
        for reach in ((), self.PART[0][1][:3], self.PART[0][1] + ((4, 0),), None):
            self.assertFalse(self.says((NEAR,), 0, 1, (("near", reach),), house=self.HOUSE))


class Nobody(Looking):
    # 1 has a throne of its own, and nobody beside it; behind it comes the house of 0.
    HOUSE = ((0, -1, -1, 1, 1), (0, -1, -1, 0, 1), (9, 0, -1, 1, 1))
    RULE = ((1, "alike", 0, "lines"), (0, "alike", 0, "age"))
    NOBODY = ("nobody", ((1, -1),))
    OF_0 = ("age", ((0, -1), (2, 0)))

    def of(self, sits, who, *book, rule=RULE, parts=(NOBODY, OF_0), day=90):
        return self.says(rule, sits, who, parts, tuple(sorted(book)), day, self.HOUSE)

    def test_sits_is_left_out_but_may_have_a_child(self):
        self.assertFalse(self.of(1, 0))
        self.assertFalse(self.of(1, 0, ("leaves", 80, 1, -1)))
        self.assertTrue(self.of(1, 0, ("dies", 80, 1, -1)))
        self.assertTrue(self.of(1, 0, ("cuts", 80, 1, -1)))

    def test_where_none_of_hers_counts(self):
        rule = ((1, "only", 0, "lines"), self.RULE[1])
        self.assertTrue(self.of(1, 0, rule=rule))
        self.assertTrue(self.of(2, 0, rule=rule))

    def test_somebody_in_reach_who_may_have_one(self):
        self.assertFalse(self.of(2, 0, ("leaves", 80, 1, -1)))
        self.assertTrue(self.of(2, 0, ("dies", 80, 1, -1)))
        self.assertFalse(self.of(2, 0))

    def test_sits_in_the_row_of_who(self):
        dead = ("dies", 80, 1, -1)
        self.assertTrue(self.of(0, 2, dead))
        self.assertFalse(self.of(1, 2, dead))
        self.assertTrue(self.of(1, 2, dead, ("leaves", 80, 0, -1)))

    def test_three_rows(self):
        rule = ((1, "only", 0, "near"), (1, "only", 0, "lines"), (0, "alike", 0, "lines"))
        parts = (self.NOBODY, self.NOBODY, ("lines", (0, 2), (0,)))
        self.assertTrue(self.of(0, 2, rule=rule, parts=parts))
        self.assertFalse(self.of(1, 2, rule=rule, parts=parts))
        for many in (0, 1, 2):
            self.assertFalse(self.of(0, 2, rule=rule, parts=parts[:many]))
        self.assertFalse(self.of(0, 2, rule=rule, parts=parts + parts[2:]))
        rule = ((1, "alike", 0, "near"),) + rule[1:]
        self.assertFalse(self.of(0, 2, rule=rule, parts=parts))
        self.assertTrue(self.of(0, 2, ("dies", 50, 1, -1), rule=rule, parts=parts))

    def test_no_part_behind_the_one_of_who(self):
        rule = (self.RULE[1], self.RULE[0])
        self.assertTrue(self.of(0, 2, rule=rule, parts=(self.OF_0,)))
        self.assertFalse(self.of(0, 2, rule=rule, parts=(self.OF_0, self.NOBODY)))
        self.assertFalse(self.of(0, 2, ("dies", 80, 1, -1), rule=rule, parts=(self.OF_0, self.NOBODY)))

    def test_too_few(self):
        self.assertFalse(self.of(1, 0, ("dies", 80, 1, -1), parts=(self.NOBODY,)))
        self.assertFalse(self.of(1, 0, ("dies", 80, 1, -1), parts=(self.OF_0,)))
        self.assertFalse(self.of(1, 0, ("dies", 80, 1, -1), parts=()))


class AnythingElse(Looking):
    BOOK = (("dies", 70, 9, -1), ("dies", 80, 0, -1))
    RIGHT = (
        ((LINES,), 2, 5, (("lines", (0, 2, 5), (0, 2)),)),
        ((AGE,), 2, 3, (("age", REACH),)),
        ((NEAR,), 2, 5, (("near", REACH),)),
        (((9, "alike", 0, "near"), AGE), 0, 2, (("nobody", ((9, -1),)), ("age", REACH))),
    )

    def test_these_are_right(self):
        for rule, sits, who, paper in self.RIGHT:
            self.assertTrue(self.says(rule, sits, who, paper, self.BOOK))
            self.assertTrue(slow_thrones.is_sure_paper(FAMILY, self.BOOK, rule, 90, sits, who, paper))

    def test_odd_things(self):
        for rule, sits, who, paper in self.RIGHT:
            for thing in ODD_THINGS:
                self.assertFalse(self.says(rule, sits, who, thing, self.BOOK))
                self.assertFalse(self.says(rule, sits, who, (thing,), self.BOOK))
                self.assertFalse(self.says(rule, sits, who, paper[:-1] + (thing,), self.BOOK))
                self.assertFalse(self.says(rule, sits, who, paper + (thing,), self.BOOK))
                self.assertFalse(self.says(rule, sits, who, paper[:-1] + (paper[-1][:-1] + (thing,),), self.BOOK))
                self.assertFalse(self.says(rule, sits, who, paper[:-1] + (paper[-1] + (thing,),), self.BOOK))
                if thing != paper[-1][0]:
                    bent = paper[:-1] + ((thing,) + paper[-1][1:],)
                    self.assertFalse(self.says(rule, sits, who, bent, self.BOOK))

    def test_lists_and_truths(self):
        for rule, sits, who, paper in self.RIGHT:
            for bent in (list(paper), listed(paper), as_truths(paper), (paper,), paper[0], {0: paper}):
                self.assertFalse(self.says(rule, sits, who, bent, self.BOOK))

    def test_bent_at_one_place(self):
        for rule, sits, who, paper in self.RIGHT:
            for thing in changed(paper):
                right = slow_thrones.is_sure_paper(FAMILY, self.BOOK, rule, 90, sits, who, thing)
                self.assertEqual(self.says(rule, sits, who, thing, self.BOOK), right)

    def test_bent_papers_of_small_houses(self):
        for house, book, rule, day in some_thrones(191, 40, 6):
            for sits in range(0, born_by(house, day), 2):
                who, paper = paper_of_heir(house, book, rule, day, sits)
                if who != -1:
                    for thing in changed(paper):
                        right = slow_thrones.is_sure_paper(house, book, rule, day, sits, who, thing)
                        self.assertEqual(self.says(rule, sits, who, thing, book, day, house), right)

    def test_of_each_who_and_sits(self):
        for house, book, rule, day in some_thrones(192, 150, 7):
            folk = range(born_by(house, day))
            for sits in folk:
                heir, paper = paper_of_heir(house, book, rule, day, sits)
                for who in folk:
                    right = slow_thrones.is_sure_paper(house, book, rule, day, sits, who, paper)
                    self.assertEqual(self.says(rule, sits, who, paper, book, day, house), right)
                    self.assertTrue(who == heir or not right)


class Large(Looking):
    def test_of_sixty(self):
        for way in ("lines", "age", "near"):
            house = ladder(60)
            heir, paper = paper_of_heir(house, (), ((0, "alike", 0, way),), 90, 0)
            self.assertEqual(heir, 1)
            self.assertTrue(self.says(((0, "alike", 0, way),), 0, 1, paper, house=house))
        dice = Dice(193)
        for _ in range(5):
            house = some_house(dice, 60, 400)
            book = some_whole_book(dice, house, 60, 400)
            rule = some_rule(dice, house)
            for sits in range(0, born_by(house, 300), 10):
                who, paper = paper_of_heir(house, book, rule, 300, sits)
                if who != -1:
                    self.says(rule, sits, who, paper, book, 300, house)
        self.assertFalse(self.says((LINES,), 1, 2, (("lines", (0, 2), (0,)),), day=LAST - 1, house=row_of(60)))


class SingleBirths(unittest.TestCase):
    """[3] (h), its last words: an heir isn't sure just where one single birth puts another one ahead."""

    def test_one_of_the_two(self):
        sure = passed = 0
        for scale, many in ((12, 250), (400, 120)):
            for house, book, rule, day in some_thrones(201 + scale, many, 8, scale, 14):
                for sits in range(born_by(house, day)):
                    who, paper = paper_of_heir(house, book, rule, day, sits)
                    if who != -1:
                        told = right_sure(house, book, rule, day, sits, who, paper)
                        births = [
                            birth for birth in slow_thrones.births(house, book, day)
                            if slow_thrones.is_passed_by(house, book, rule, day, sits, who, birth)]
                        self.assertEqual(told, births == [])
                        sure += told
                        passed += not told
        self.assertGreater(min(sure, passed), 100)


class Sure(unittest.TestCase):
    """[3] (h): what comes of it, whatever befalls but what the words leave out."""

    def later(self, dice, house, book, day):
        """A house and a book that go on behind the day."""
        folk = list(house[:born_by(house, day)])
        news = list(book_up_to(book, day))
        awaited = [book[place][3] for place in slow_thrones.open_awaits(house, book, day)]
        barred = [who for who in range(len(folk)) if slow_thrones.dead(book, day, who) and who not in awaited]
        for now in range(day + 1, day + 9):
            if dice.below(2) == 0:
                parents = (self.parent(dice, folk, now, 1, barred), self.parent(dice, folk, now, 0, barred))
                folk.append((now, *parents, dice.below(2), dice.one_of((0, 1, 1, 1))))
            for _ in range(dice.below(3)):
                news.append((dice.one_of(("dies", "leaves", "cuts")), now, dice.below(len(folk)), -1))
            mother = self.parent(dice, folk, now, 0, barred)
            if mother != -1 and dice.below(4) == 0:
                news.append(("awaits", now, mother, self.parent(dice, folk, now, 1, barred)))
        return tuple(folk), tuple(sorted(set(news)))

    def parent(self, dice, folk, now, man, barred):
        fit = [who for who in range(len(folk)) if folk[who][3] == man and folk[who][0] < now and who not in barred]
        return -1 if not fit or dice.below(5) == 0 else dice.one_of(fit)

    def look_ahead(self, dice, case, sits, who):
        house, book, rule, day = case
        looked = 0
        for _ in range(4):
            later, more = self.later(dice, house, book, day)
            check_house(later)
            check_book(later, more)
            for asked in range(day + 1, day + 12):
                gone = is_dead(more, asked, sits) or is_out(more, asked, sits)
                if gone and not is_dead(more, asked, who) and not is_out(more, asked, who):
                    self.assertEqual(first_of(later, more, rule, asked, sits), who)
                    looked += 1
        return looked

    def test_as_long_as_nobody_returns(self):
        dice = Dice(211)
        looked = 0
        for case in some_thrones(212, 250, 8):
            house, book, rule, day = case
            for sits in range(born_by(house, day)):
                who, paper = paper_of_heir(house, book, rule, day, sits)
                if who != -1 and right_sure(house, book, rule, day, sits, who, paper):
                    looked += self.look_ahead(dice, case, sits, who)
        self.assertGreater(looked, 1000)


if __name__ == "__main__":
    unittest.main()
