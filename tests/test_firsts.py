"""Point [16]: papers of a first one, looked over and made; and [3] (b) of them."""

import unittest
from itertools import product

from tests import slow, slow_thrones
from tests.makers import (
    FAMILY, ODD_THINGS, all_rules, as_truths, changed, is_plain, ladder, listed, row_of, some_thrones)
from thronewalk.firstmaking import first_paper
from thronewalk.firsts import right_first
from thronewalk.folk import born_by
from thronewalk.orders import first_of, order_of

LINES = (0, "alike", 0, "lines")
AGE = (0, "alike", 0, "age")
NEAR = (0, "alike", 0, "near")

REACH = ((0, -1), (2, 0), (3, 0), (4, 0), (5, 2), (6, 3), (7, 5), (8, 2), (9, 4))
OF_9 = ((9, -1),)
ONLY_9 = (9, "only", 0, "lines")
DEAD_0 = (("dies", 80, 0, -1),)


class Looking(unittest.TestCase):
    def says(self, rule, who, thing, book=(), last=0, day=90, house=FAMILY):
        told = right_first(house, book, rule, day, last, who, thing)
        self.assertIs(type(told), bool)
        return told


class ByLines(Looking):
    def test_ordinary(self):
        self.assertTrue(self.says((LINES,), 0, (("lines", (0,), ()),)))
        self.assertTrue(self.says((LINES,), 2, (("lines", (0, 2), (0,)),), DEAD_0))
        book = (("cuts", 80, 2, -1), ("dies", 80, 0, -1), ("dies", 80, 7, -1), ("leaves", 80, 5, -1))
        self.assertTrue(self.says((LINES,), 8, (("lines", (0, 2, 8), (0, 2, 5, 7)),), book))

    def test_somebody_ahead_stands(self):
        self.assertFalse(self.says((LINES,), 2, (("lines", (0, 2), (0,)),)))
        self.assertFalse(self.says((LINES,), 5, (("lines", (0, 2, 5), (0, 2)),), DEAD_0))
        self.assertFalse(self.says((LINES,), 2, (("lines", (0, 2), (0,)),), DEAD_0, day=79))
        self.assertTrue(self.says((LINES,), 2, (("lines", (0, 2), (0,)),), DEAD_0, day=80))

    def test_no_place(self):
        for line, ahead in (((0, 2), ()), ((0, 2), (0, 3)), ((2,), ()), ((0,), ()), ((0, 3), (0,)), ((), ())):
            self.assertFalse(self.says((LINES,), 2, (("lines", line, ahead),), DEAD_0))
        self.assertFalse(self.says((LINES,), 2, (("lines", [0, 2], (0,)),), DEAD_0))
        self.assertFalse(self.says((LINES,), 2, (("lines", (0, 2), [0]),), DEAD_0))

    def test_the_place_of_another(self):
        self.assertFalse(self.says((LINES,), 3, (("lines", (0, 2), (0,)),), DEAD_0))
        self.assertFalse(self.says((LINES,), 2, (("lines", (0,), ()),)))

    def test_who_does_not_stand(self):
        self.assertFalse(self.says((LINES,), 0, (("lines", (0,), ()),), DEAD_0))
        self.assertFalse(self.says((LINES,), 0, (("lines", (0,), ()),), (("leaves", 80, 0, -1),)))
        self.assertFalse(self.says(((1, "only", 0, "lines"),), 1, (("lines", (1,), ()),)))
        self.assertTrue(self.says(((1, "alike", 0, "lines"),), 1, (("lines", (1,), ()),)))

    def test_women_ahead_where_men_only_count(self):
        row = (0, "only", 0, "lines")
        self.assertTrue(self.says((row,), 3, (("lines", (0, 3), (0, 2)),), DEAD_0))
        self.assertFalse(self.says((row,), 2, (("lines", (0, 2), (0,)),), DEAD_0))


class ByAge(Looking):
    def test_ordinary(self):
        self.assertTrue(self.says((AGE,), 0, (("age", REACH),)))
        self.assertTrue(self.says((AGE,), 2, (("age", REACH),), DEAD_0))
        self.assertTrue(self.says((AGE,), 3, (("age", REACH),), (("dies", 80, 0, -1), ("leaves", 80, 2, -1))))

    def test_any_reach_will_do(self):
        self.assertTrue(self.says((AGE,), 0, (("age", REACH[:6] + ((7, 6), (8, 3), (9, 4))),)))

    def test_a_lesser_number_that_stands(self):
        for who in range(2, 10):
            self.assertFalse(self.says((AGE,), who, (("age", REACH),)))
        for who in range(3, 10):
            self.assertFalse(self.says((AGE,), who, (("age", REACH),), DEAD_0))

    def test_who_does_not_stand(self):
        self.assertFalse(self.says((AGE,), 1, (("age", REACH),), DEAD_0))
        self.assertFalse(self.says((AGE,), 0, (("age", REACH),), DEAD_0))
        self.assertFalse(self.says((AGE,), 2, (("age", REACH),), (("cuts", 80, 2, -1), ("dies", 80, 0, -1))))

    def test_no_reach(self):
        for reach in ((), REACH[:8], REACH[1:], REACH + ((10, 9),), REACH[::-1], ((0, -1),), list(REACH)):
            self.assertFalse(self.says((AGE,), 0, (("age", reach),)))

    def test_a_founder_who_is_not_born(self):
        row = (5, "alike", 0, "age")
        self.assertFalse(self.says((row,), 0, (("age", ()),), day=39))
        self.assertFalse(self.says((row,), 2, (("age", ()),), day=39))
        self.assertTrue(self.says((row,), 5, (("age", ((5, -1),)),), day=40))


class ByNearness(Looking):
    def test_ordinary(self):
        self.assertTrue(self.says((NEAR,), 7, (("near", REACH),), last=7))
        self.assertTrue(self.says((NEAR,), 5, (("near", REACH),), (("dies", 80, 7, -1),), 7))
        self.assertTrue(self.says((NEAR,), 0, (("near", REACH),), (("dies", 80, 4, -1), ("dies", 80, 9, -1)), 9))

    def test_a_lesser_degree(self):
        for who in (0, 2, 3, 4, 5, 6, 8, 9):
            self.assertFalse(self.says((NEAR,), who, (("near", REACH),), last=7))
        for who in (0, 2, 3, 4, 8, 9):
            self.assertFalse(self.says((NEAR,), who, (("near", REACH),), (("dies", 80, 7, -1),), 7))

    def test_a_like_degree_and_a_lesser_number(self):
        self.assertFalse(self.says((NEAR,), 6, (("near", REACH),), (("dies", 80, 7, -1),), 7))
        book = (("dies", 80, 5, -1), ("dies", 80, 7, -1))
        self.assertTrue(self.says((NEAR,), 6, (("near", REACH),), book, 7))
        book = (("dies", 80, 5, -1), ("dies", 80, 6, -1), ("dies", 80, 7, -1))
        self.assertTrue(self.says((NEAR,), 2, (("near", REACH),), book, 7))
        self.assertFalse(self.says((NEAR,), 3, (("near", REACH),), book, 7))

    def test_last_who_is_not_reached(self):
        self.assertTrue(self.says((NEAR,), 0, (("near", REACH),), last=1))
        for who in range(1, 10):
            self.assertFalse(self.says((NEAR,), who, (("near", REACH),), last=1))
        self.assertTrue(self.says((NEAR,), 2, (("near", REACH),), DEAD_0, 1))

    def test_last_decides(self):
        for last in (0, 2, 3, 4, 5, 6, 7, 8, 9):
            for who in range(10):
                self.assertEqual(self.says((NEAR,), who, (("near", REACH),), last=last), who == last)

    def test_no_reach(self):
        for reach in ((), REACH[:8], REACH[1:], REACH + ((10, 9),), REACH[::-1], ((7, -1),), list(REACH)):
            self.assertFalse(self.says((NEAR,), 7, (("near", reach),), last=7))


class Nobody(Looking):
    HOUSE = ((0, -1, -1, 1, 1), (5, -1, -1, 1, 1), (9, 0, -1, 0, 1))
    BOOK = (("dies", 20, 0, -1), ("dies", 20, 2, -1))
    PART = ("nobody", ((0, -1), (2, 0)))

    def of_nobody(self, rule, thing, book=BOOK, day=90):
        return self.says(rule, -1, thing, book, 1, day, self.HOUSE)

    def test_a_part_for_each_row(self):
        for way in ("lines", "age", "near"):
            row = (0, "alike", 0, way)
            for many in (1, 2, 3):
                for parts in range(5):
                    self.assertEqual(self.of_nobody((row,) * many, (self.PART,) * parts), parts == many)

    def test_somebody_in_reach_stands(self):
        for book in ((), self.BOOK[:1], self.BOOK[1:]):
            self.assertFalse(self.of_nobody((AGE,), (self.PART,), book))
        self.assertFalse(self.of_nobody((AGE,), (self.PART,), day=19))
        self.assertTrue(self.of_nobody(((0, "only", 0, "age"),), (self.PART,), self.BOOK[:1]))

    def test_in_one_of_several_rows(self):
        stands = (1, "alike", 0, "age")
        of_1 = ("nobody", ((1, -1),))
        self.assertTrue(self.of_nobody((stands,), (of_1,), (("dies", 9, 1, -1),)))
        self.assertFalse(self.of_nobody((stands,), (of_1,)))
        self.assertFalse(self.of_nobody((stands, AGE), (of_1, self.PART)))
        self.assertFalse(self.of_nobody((AGE, AGE, stands), (self.PART, self.PART, of_1)))
        self.assertTrue(self.of_nobody((AGE, stands), (self.PART, of_1), self.BOOK + (("leaves", 9, 1, -1),)))

    def test_no_reach(self):
        for reach in ((), ((0, -1),), ((2, 0),), ((0, -1), (1, 0), (2, 0)), ((2, 0), (0, -1)), [(0, -1), (2, 0)], None):
            self.assertFalse(self.of_nobody((AGE,), (("nobody", reach),)))

    def test_parts_of_another_way(self):
        for word in ("age", "lines", "near", "", "Nobody", None, 0, ("nobody",)):
            self.assertFalse(self.of_nobody((AGE,), ((word, self.PART[1]),)))
        self.assertFalse(self.of_nobody((AGE,), (self.PART + ((),),)))
        self.assertFalse(self.of_nobody((AGE,), (("nobody",),)))
        self.assertFalse(self.of_nobody((AGE,), self.PART))

    def test_nobody_is_no_paper_of_a_folk(self):
        for who in (0, 1, 2):
            self.assertFalse(self.says((AGE,), who, (self.PART,), self.BOOK, 1, house=self.HOUSE))

    def test_a_folk_is_no_paper_of_nobody(self):
        self.assertTrue(self.says((AGE,), 0, (("age", REACH),)))
        self.assertFalse(self.says((AGE,), -1, (("age", REACH),)))
        self.assertFalse(self.says((LINES,), -1, (("lines", (0,), ()),)))
        self.assertFalse(self.says((AGE,), -1, ()))

    def test_where_no_founder_is_born(self):
        rule = ((5, "alike", 0, "lines"), (4, "alike", 0, "near"))
        self.assertTrue(self.says(rule, -1, (("nobody", ()), ("nobody", ())), day=19))
        self.assertFalse(self.says(rule, -1, (("nobody", ()), ("nobody", ())), day=20))


class SeveralRows(Looking):
    RULE = (ONLY_9, (8, "alike", 0, "age"), AGE)
    NOBODY = ("nobody", OF_9)
    OF_8 = ("age", ((8, -1),))

    def test_up_to_the_row_of_who(self):
        self.assertTrue(self.says(self.RULE, 8, (self.NOBODY, self.OF_8)))
        self.assertTrue(self.says(self.RULE[:2], 8, (self.NOBODY, self.OF_8)))

    def test_a_part_behind_the_one_of_who(self):
        for more in (("age", REACH), ("nobody", REACH), self.OF_8, (), None):
            self.assertFalse(self.says(self.RULE, 8, (self.NOBODY, self.OF_8, more)))
        self.assertFalse(self.says(self.RULE, 8, (self.NOBODY, self.OF_8, ("age", REACH), ("age", REACH))))

    def test_too_few_parts(self):
        self.assertFalse(self.says(self.RULE, 8, ()))
        self.assertFalse(self.says(self.RULE, 8, (self.NOBODY,)))
        self.assertFalse(self.says(self.RULE, 8, (self.OF_8,)))

    def test_a_row_ahead_by_which_somebody_stands(self):
        nobody = ("nobody", ((8, -1),))
        self.assertFalse(self.says(self.RULE, 0, (self.NOBODY, nobody, ("age", REACH))))
        book = (("dies", 70, 8, -1),)
        self.assertTrue(self.says(self.RULE, 0, (self.NOBODY, nobody, ("age", REACH)), book))
        self.assertFalse(self.says(self.RULE, 8, (self.NOBODY, nobody, ("age", REACH))))

    def test_the_row_must_be_one_by_which_who_stands(self):
        rule = (AGE, (8, "alike", 0, "age"))
        self.assertFalse(self.says(rule, 8, (("age", REACH),)))
        self.assertFalse(self.says(rule, 8, (("nobody", REACH), ("age", ((8, -1),)))))

    def test_parts_in_another_turn(self):
        self.assertFalse(self.says(self.RULE, 8, (self.OF_8, self.NOBODY)))
        self.assertFalse(self.says(self.RULE, 8, (self.OF_8, self.OF_8)))

    def test_a_part_of_another_way(self):
        place = ("lines", (8,), ())
        reach = ((8, -1),)
        parts = {"lines": place, "age": ("age", reach), "near": ("near", reach), "nobody": ("nobody", reach)}
        for way in ("lines", "age", "near"):
            for word, part in parts.items():
                row = (8, "alike", 0, way)
                self.assertEqual(self.says((ONLY_9, row), 8, (self.NOBODY, part)), word == way)
                self.assertEqual(self.says((row,), 8, (part,)), word == way)

    def test_a_reach_of_another_row(self):
        self.assertFalse(self.says(self.RULE, 8, (("nobody", ((8, -1),)), self.OF_8)))
        self.assertFalse(self.says(self.RULE, 8, (self.NOBODY, ("age", OF_9))))


class AnythingElse(Looking):
    RIGHT = (
        ((LINES,), 2, (("lines", (0, 2), (0,)),)),
        ((AGE,), 2, (("age", REACH),)),
        ((NEAR,), 2, (("near", REACH),)),
        ((ONLY_9, AGE), 2, (("nobody", OF_9), ("age", REACH))),
        ((ONLY_9,), -1, (("nobody", OF_9),)),
    )

    def test_these_are_right(self):
        for rule, who, paper in self.RIGHT:
            self.assertTrue(self.says(rule, who, paper, DEAD_0))

    def test_odd_things(self):
        for rule, who, paper in self.RIGHT:
            for thing in ODD_THINGS:
                self.assertFalse(self.says(rule, who, thing, DEAD_0))
                self.assertFalse(self.says(rule, who, (thing,), DEAD_0))
                self.assertFalse(self.says(rule, who, paper[:-1] + (thing,), DEAD_0))
                self.assertFalse(self.says(rule, who, paper + (thing,), DEAD_0))
                self.assertFalse(self.says(rule, who, paper[:-1] + (paper[-1][:-1] + (thing,),), DEAD_0))
                if thing != paper[-1][0]:
                    self.assertFalse(self.says(rule, who, paper[:-1] + ((thing,) + paper[-1][1:],), DEAD_0))
                self.assertFalse(self.says(rule, who, paper[:-1] + (paper[-1] + (thing,),), DEAD_0))

    def test_lists_and_truths(self):
        for rule, who, paper in self.RIGHT:
            self.assertFalse(self.says(rule, who, listed(paper), DEAD_0))
            self.assertFalse(self.says(rule, who, list(paper), DEAD_0))
            self.assertFalse(self.says(rule, who, tuple(list(part) for part in paper), DEAD_0))
            self.assertFalse(self.says(rule, who, (paper,), DEAD_0))
            self.assertFalse(self.says(rule, who, paper[0], DEAD_0))
            self.assertFalse(self.says(rule, who, {0: paper}, DEAD_0))
            if repr(as_truths(paper)) != repr(paper):
                self.assertFalse(self.says(rule, who, as_truths(paper), DEAD_0))

    def test_bent_at_one_place(self):
        for rule, who, paper in self.RIGHT:
            for thing in changed(paper):
                right = slow_thrones.is_first_paper(FAMILY, DEAD_0, rule, 90, 0, who, thing)
                self.assertEqual(self.says(rule, who, thing, DEAD_0), right)

    def test_bent_papers_of_small_houses(self):
        seen = 0
        for house, book, rule, day in some_thrones(81, 40, 6):
            for last in range(0, born_by(house, day), 2):
                who = first_of(house, book, rule, day, last)
                for thing in changed(first_paper(house, book, rule, day, last)):
                    right = slow_thrones.is_first_paper(house, book, rule, day, last, who, thing)
                    self.assertEqual(self.says(rule, who, thing, book, last, day, house), right)
                    seen += 1
        self.assertGreater(seen, 5000)


class Made(unittest.TestCase):
    def look_over(self, house, book, rule, day, last):
        told = first_paper(house, book, rule, day, last)
        who = first_of(house, book, rule, day, last)
        self.assertTrue(is_plain(told))
        self.assertIs(right_first(house, book, rule, day, last, who, told), True)
        self.assertEqual(first_paper(house, book, rule, day, last), told)
        return who, told

    def test_each_kind_of_rule(self):
        self.assertEqual(first_paper(FAMILY, DEAD_0, (LINES,), 90, 0), (("lines", (0, 2), (0,)),))
        self.assertEqual(first_paper(FAMILY, (), ((9, "alike", 0, "age"),), 90, 0), (("age", OF_9),))
        self.assertEqual(first_paper(FAMILY, (), ((9, "alike", 0, "near"),), 90, 0), (("near", OF_9),))
        told = first_paper(FAMILY, (), (ONLY_9, (8, "first", 1, "near")), 90, 0)
        self.assertEqual(told, (("nobody", OF_9), ("near", ((8, -1),))))
        told = first_paper(FAMILY, (), (ONLY_9, (5, "only", 0, "near"), AGE), 39, 0)[:2]
        self.assertEqual(told, (("nobody", ()), ("nobody", ())))
        self.assertEqual(first_paper(FAMILY, (), (ONLY_9,), 90, 0), (("nobody", OF_9),))

    def test_the_family(self):
        for founder in range(len(FAMILY)):
            for rule in all_rules(founder):
                for last in (0, 1, 7):
                    for book in ((), DEAD_0, (("cuts", 40, 2, -1), ("dies", 60, 3, -1))):
                        self.look_over(FAMILY, book, rule, 90, last)

    def test_small_houses(self):
        parts = set()
        for house, book, rule, day in some_thrones(84, 500, 9):
            for last in range(born_by(house, day)):
                who, told = self.look_over(house, book, rule, day, last)
                self.assertTrue(slow_thrones.is_first_paper(house, book, rule, day, last, who, told))
                parts.add((len(told), told[-1][0]))
                for other in range(-1, born_by(house, day)):
                    self.assertEqual(right_first(house, book, rule, day, last, other, told), other == who)
        self.assertEqual(parts, set(product((1, 2, 3), ("nobody", "lines", "age", "near"))))

    def test_sixty_one_folk(self):
        for house in (ladder(61), row_of(61)):
            book = tuple(("dies", 61, who, -1) for who in range(59))
            for rule in all_rules(0):
                self.look_over(house, book, rule, 99, 30)


class LetBy(unittest.TestCase):
    """[3] (b): whatever paper is let by, that one is the first, or nobody stands."""

    def all_parts(self, house, book, row, day):
        """Each part that could be right at all of some folk, and more."""
        folk = range(len(house))
        choices = [[()] + [((who, parent),) for parent in range(-1, who)] for who in folk]
        reaches = [sum(pairs, ()) for pairs in product(*choices)]
        reaches = [reach for reach in reaches if slow.is_reach(house, book, row, day, reach)]
        parts = [(word, reach) for word in ("nobody", "age", "near") for reach in reaches]
        for line in slow.lines(house, book, row, day):
            parts.extend(("lines", line, ahead) for ahead in slow.subsets(folk))
        return parts

    def test_every_paper_of_small_houses(self):
        let_by = set()
        for house, book, rule, day in some_thrones(83, 50, 5):
            rule = rule[:2]
            choices = [self.all_parts(house, book, row, day) for row in rule]
            papers = [papers for many in range(1, len(rule) + 1) for papers in product(*choices[:many])][:4000]
            for last in (0, born_by(house, day) - 1):
                order = order_of(house, book, rule, day, last)
                for who in range(-1, born_by(house, day)):
                    found = [p for p in papers if right_first(house, book, rule, day, last, who, p)]
                    if found:
                        self.assertEqual(who, order[0] if order else -1)
                        let_by.update(paper[-1][0] for paper in found)
        self.assertEqual(let_by, {"nobody", "lines", "age", "near"})


if __name__ == "__main__":
    unittest.main()
