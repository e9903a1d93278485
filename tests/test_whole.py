"""Point [3], over the whole: (a), (b) of places, (c), (d), (e) of orders; and point [2] of what is handed in.

The rest of [3] is tested beside what it is about: (b) of first ones in test_firsts.py, (e) of reigns and (g) in
test_reignmaking.py, (f) in test_moments.py, (h) in test_sures.py and test_heirs.py, (i) in test_deaths.py, (j) in
test_asking.py, (k) in test_holder.py and test_late.py.
"""

import unittest

from tests import slow
from tests.makers import FAMILY, Dice, all_rows, ladder, listed, some_cases, some_parent, some_thrones
from thronewalk.births import may_have
from thronewalk.degrees import degrees
from thronewalk.firstmaking import first_paper
from thronewalk.firsts import right_first
from thronewalk.folk import born_by
from thronewalk.heirs import heir_of
from thronewalk.late import changed_from
from thronewalk.moments import moments
from thronewalk.news import book_up_to
from thronewalk.orders import first_of, order_of
from thronewalk.places import right_place
from thronewalk.placing import comes_ahead, parting, place_of
from thronewalk.reach import reach_of, right_reach, stands
from thronewalk.reignmaking import reign_paper
from thronewalk.reignpaper import right_reigns
from thronewalk.reigns import last_at, regent_at, reigns, sitter_at
from thronewalk.steps import is_line, lines_many, steps_of
from thronewalk.sures import right_sure
from thronewalk.unions import heads_at, unions
from thronewalk.waits import child_house, open_awaits
from thronewalk.walks import least_line, walk


class WalkAndLeastLines(unittest.TestCase):
    """(a)"""

    def test_they_are_one(self):
        for house, book, row, day in some_cases(61, 300, 10):
            by_lines = tuple(slow.least_lines(house, book, row, day))
            self.assertEqual(slow.plain_walk(house, book, row, day), by_lines)
            self.assertEqual(walk(house, book, row, day), by_lines)

    def test_in_the_family_by_each_row(self):
        for founder in range(len(FAMILY)):
            for row in all_rows(founder):
                for day in (0, 10, 20, 40, 60, 70):
                    self.assertEqual(walk(FAMILY, (), row, day), tuple(slow.least_lines(FAMILY, (), row, day)))


class Places(unittest.TestCase):
    """(b)"""

    def test_what_is_let_by_is_the_place(self):
        let_by = 0
        for house, book, row, day in some_cases(62, 60, 6):
            order = walk(house, book, row, day)
            for line in slow.lines(house, book, row, day):
                who = line[-1]
                for ahead in slow.subsets(range(len(house))):
                    if right_place(house, book, row, day, who, (line, ahead)):
                        let_by += 1
                        self.assertEqual(line, least_line(house, book, row, day, who))
                        self.assertEqual(ahead, tuple(sorted(order[:order.index(who)])))
                        self.assertEqual((line, ahead), place_of(house, book, row, day, who))
            for who in order:
                ahead = place_of(house, book, row, day, who)[1]
                others = [other for other in order if other != who]
                self.assertEqual(
                    list(ahead), sorted(o for o in others if comes_ahead(house, book, row, day, o, who)))
        self.assertGreater(let_by, 100)


class Reached(unittest.TestCase):
    """(c)"""

    def test_ever_after(self):
        for house, book, row, _ in some_cases(63, 150, 9):
            before = set()
            for day in range(30):
                now = {pair[0] for pair in reach_of(house, book, row, day)}
                self.assertEqual(now, {who for who in range(len(house)) if lines_many(house, book, row, day, who)})
                self.assertEqual(now, set(walk(house, book, row, day)))
                self.assertLessEqual(before, now)
                before = now


class OneMore(unittest.TestCase):
    """(d)"""

    def orders(self, house, book, rule, day, folk):
        return [order_of(house, book, rule, day, last) for last in range(folk)]

    def test_one_born_more(self):
        came = 0
        dice = Dice(64)
        for house, book, rule, day in some_thrones(65, 250, 8):
            born = max(house[-1][0], day - dice.below(3))
            parents = (some_parent(dice, house, born, 1), some_parent(dice, house, born, 0))
            more = house + ((born, *parents, dice.below(2), dice.below(2)),)
            for asked in (born - 1, born, born + 2):
                folk = born_by(house, asked)
                before = self.orders(house, book, rule, asked, folk)
                after = self.orders(more, book, rule, asked, folk)
                self.assertEqual([tuple(who for who in order if who != len(house)) for order in after], before)
                came += after != before
        self.assertGreater(came, 50)

    def test_one_more_who_dies_or_leaves(self):
        went = 0
        dice = Dice(66)
        for house, book, rule, day in some_thrones(67, 250, 8):
            who = dice.below(len(house))
            told = house[who][0] + dice.below(6)
            word = dice.one_of(("dies", "leaves"))
            if word == "leaves" and any(news[0] == "returns" and news[2] == who and news[1] >= told for news in book):
                continue
            more = tuple(sorted({*book, (word, told, who, -1)}))
            for asked in (max(told - 1, 0), told, told + 3):
                folk = born_by(house, asked)
                before = self.orders(house, book, rule, asked, folk)
                after = self.orders(house, more, rule, asked, folk)
                gone = who if asked >= told else -1
                self.assertEqual(after, [tuple(one for one in order if one != gone) for order in before])
                went += after != before
        self.assertGreater(went, 30)

    def test_behind_a_return(self):
        back = 0
        dice = Dice(68)
        for house, book, rule, day in some_thrones(69, 400, 8):
            who = dice.one_of([news[2] for news in book if news[0] in ("leaves", "cuts")] or [0])
            told = house[who][0] + dice.below(12)
            more = tuple(sorted({*book, ("returns", told, who, -1)}))
            undone = tuple(
                news for news in book
                if not (news[0] in ("leaves", "cuts") and news[2] == who and news[1] <= told))
            for asked in (told, told + 1, told + 9):
                folk = born_by(house, asked)
                after = self.orders(house, more, rule, asked, folk)
                self.assertEqual(after, self.orders(house, undone, rule, asked, folk))
                back += after != self.orders(house, book, rule, asked, folk)
            if told > house[who][0]:
                folk = born_by(house, told - 1)
                before = self.orders(house, book, rule, told - 1, folk)
                self.assertEqual(self.orders(house, more, rule, told - 1, folk), before)
        self.assertGreater(back, 30)


class BehindTheDay(unittest.TestCase):
    """(e), of orders, their papers, and of children that are awaited."""

    def test_nothing_hangs_on_it(self):
        for house, book, rule, day in some_thrones(70, 200, 9):
            born = house[:born_by(house, day)]
            so_far = book_up_to(book, day)
            for last in range(len(born)):
                self.assertEqual(order_of(house, book, rule, day, last), order_of(born, so_far, rule, day, last))
                paper = first_paper(house, book, rule, day, last)
                self.assertEqual(paper, first_paper(born, so_far, rule, day, last))
                first = first_of(born, so_far, rule, day, last)
                self.assertTrue(right_first(born, so_far, rule, day, last, first, paper))
            houses = [child_house(house, book, day, place) for place in open_awaits(house, book, day)]
            again = [child_house(born, so_far, day, place) for place in open_awaits(born, so_far, day)]
            self.assertEqual(houses, again)


class AskedTwice(unittest.TestCase):
    """The same question is answered alike, and a long house is answered at all."""

    def test_the_same_again(self):
        for house in (FAMILY, ladder(60), ladder(61)):
            for row in all_rows(0):
                asks = (
                    lambda: [steps_of(house, (), row, 90, who) for who in range(len(house))],
                    lambda: [stands(house, (), row, 90, who) for who in range(len(house))],
                    lambda: reach_of(house, (), row, 90), lambda: walk(house, (), row, 90),
                    lambda: least_line(house, (), row, 90, 2), lambda: place_of(house, (), row, 90, 2),
                    lambda: parting(house, (), row, 90, 0, 2), lambda: comes_ahead(house, (), row, 90, 0, 2),
                    lambda: degrees(house, (), row, 90, 2), lambda: is_line(house, (), row, 90, (0, 2)),
                    lambda: right_reach(house, (), row, 90, reach_of(house, (), row, 90)),
                )
                self.assertEqual([ask() for ask in asks], [ask() for ask in asks])

    def test_thrones(self):
        for house, book, rule, day in some_thrones(74, 60, 8):
            before = repr((house, book, rule))
            news = tuple(one for one in book if one[1] == day)
            first, paper = first_of(house, book, rule, day, 0), first_paper(house, book, rule, day, 0)
            asks = (
                lambda: order_of(house, book, rule, day, 0), lambda: first_of(house, book, rule, day, 0),
                lambda: first_paper(house, book, rule, day, 0), lambda: open_awaits(house, book, day),
                lambda: right_first(house, book, rule, day, 0, first, paper),
                lambda: [child_house(house, book, day, place) for place in open_awaits(house, book, day)],
                lambda: reigns(house, book, rule, day), lambda: regent_at(house, book, rule, day),
                lambda: sitter_at(house, book, rule, day), lambda: last_at(house, book, rule, day),
                lambda: moments(house, book, rule, day, news), lambda: reign_paper(house, book, rule, day),
                lambda: right_reigns(house, book, rule, day, reign_paper(house, book, rule, day)),
                lambda: [may_have(house, book, rule[0], day, who) for who in range(born_by(house, day))],
                lambda: right_sure(house, book, rule, day, 0, 1, paper),
                lambda: heir_of(house, book, rule, day, 0), lambda: heads_at(house, book, (rule, rule), day),
                lambda: unions(house, book, rule, rule[:1], day),
                lambda: changed_from(house, book, book[1:], rule, day),
            )
            self.assertEqual([ask() for ask in asks], [ask() for ask in reversed(asks)][::-1])
            self.assertEqual(repr((house, book, rule)), before)

    def test_what_is_looked_over_stays_as_it_was(self):
        rule = ((0, "alike", 0, "lines"),)
        papers = [listed(paper) for paper in (first_paper(FAMILY, (), rule, 90, 0), reign_paper(FAMILY, (), rule, 90))]
        for thing in papers + [(papers[0],), (tuple(papers[0]),), (tuple(papers[1]),), {0: papers}]:
            before = repr(thing)
            self.assertFalse(right_first(FAMILY, (), rule, 90, 0, 0, thing))
            self.assertFalse(right_sure(FAMILY, (), rule, 90, 2, 0, thing))
            self.assertFalse(right_reigns(FAMILY, (), rule, 90, thing))
            self.assertEqual(repr(thing), before)


if __name__ == "__main__":
    unittest.main()
