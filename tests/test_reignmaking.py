"""Point [19]: papers of reigns that are made; and [3] (e) and (g)."""

import unittest

from tests import slow_thrones
from tests.by_hand import BARE_BOOK, BARE_HOUSE, BARE_PAPER, BARE_RULE, BOOK, HOUSE, PAPER, RULE
from tests.makers import (
    FAMILY, LAST, Dice, all_rules, changed, is_plain, some_house, some_rule, some_thrones, some_whole_book)
from thronewalk.folk import born_by
from thronewalk.moments import moments
from thronewalk.news import book_up_to, is_dead, is_out
from thronewalk.orders import first_of
from thronewalk.reignmaking import reign_paper
from thronewalk.reignpaper import right_reigns
from thronewalk.reigns import last_at, regent_at, reigns, sitter_at


def told_by(paper, day):
    """Who sits on a day by the rows of a paper."""
    rows = [row for row in paper if row[0] <= day]
    return rows[-1][1] if rows else -1


class Made(unittest.TestCase):
    def look_over(self, house, book, rule, until):
        paper = reign_paper(house, book, rule, until)
        self.assertTrue(is_plain(paper))
        self.assertIs(right_reigns(house, book, rule, until, paper), True)
        self.assertEqual(reign_paper(house, book, rule, until), paper)
        return paper

    def test_the_paper_of_the_house(self):
        for until, many in ((0, 0), (9, 0), (10, 1), (59, 1), (60, 2), (70, 3), (349, 3), (350, 4), (LAST, 4)):
            self.assertEqual(reign_paper(HOUSE, BOOK, RULE, until), PAPER[:many])

    def test_while_nobody_sits(self):
        self.assertEqual(self.look_over(BARE_HOUSE, BARE_BOOK, BARE_RULE, LAST), BARE_PAPER)

    def test_each_kind_of_rule(self):
        books = ((), (("dies", 15, 0, -1), ("dies", 50, 2, -1), ("leaves", 65, 5, -1)))
        awaited = (("awaits", 45, 6, 5), ("awaits", 61, 2, 3)) + books[1]
        for founder in (0, 1, 4):
            for rule in all_rules(founder):
                for book in books + (awaited,):
                    self.look_over(FAMILY, book, rule, 1000)

    def test_small_houses(self):
        words = {}
        for scale, many in ((12, 200), (450, 80)):
            for house, book, rule, day in some_thrones(151 + scale, many, 8, scale):
                until = day + 320
                paper = self.look_over(house, book, rule, until)
                self.assertTrue(slow_thrones.is_reign_paper(house, book, rule, until, paper))
                for asked, sits, last in slow_thrones.seats(house, book, rule, until):
                    self.assertEqual(told_by(paper, asked), sits)
                for row in paper:
                    words[row[2]] = words.get(row[2], 0) + 1
        self.assertGreater(min(words[word] for word in ("sits", "nobody", "waits")), 20)

    def test_of_sixty(self):
        dice = Dice(153)
        for _ in range(5):
            house = some_house(dice, 60, 400)
            book = some_whole_book(dice, house, 60, 400)
            self.look_over(house, book, some_rule(dice, house), LAST)
        house = ((0, -1, -1, 1, 1),) + tuple((2 * who, 0, -1, 0, 1) for who in range(1, 60))
        book = tuple(("awaits", 120 + who, who, -1) for who in range(1, 60)) + (("dies", 0, 0, -1),)
        paper = self.look_over(house, book, ((0, "only", 0, "near"),), LAST)
        self.assertEqual({row[2] for row in paper}, {"nobody"})
        book = tuple(("awaits", 120 + who, who, 0) for who in range(1, 60)) + (("dies", 0, 0, -1),)
        paper = self.look_over(house, book, ((0, "only", 0, "lines"),) * 3, LAST)
        self.assertEqual({row[2] for row in paper}, {"nobody", "waits"})


class LetBy(unittest.TestCase):
    """[3] (g): whatever paper is let by, it tells who sits on each day."""

    def test_papers_with_a_part_changed(self):
        others = 0
        for scale, many in ((12, 30), (450, 10)):
            for house, book, rule, day in some_thrones(161 + scale, many, 6, scale, 9):
                until = day + 320
                paper = reign_paper(house, book, rule, until)
                right = [(asked, sits) for asked, sits, last in slow_thrones.seats(house, book, rule, until)]
                for thing in changed(paper):
                    told = right_reigns(house, book, rule, until, thing)
                    if told:
                        self.assertEqual([(asked, told_by(thing, asked)) for asked, sits in right], right)
                        others += repr(thing) != repr(paper)
        self.assertGreater(others, 2)


class WhoSits(unittest.TestCase):
    """[3] (e)"""

    def test_who_comes_to_sit_is_the_first(self):
        for house, book, rule, day in some_thrones(171, 250, 8):
            for begun, who in reigns(house, book, rule, day + 320):
                if who != -1:
                    last = last_at(house, book, rule, begun - 1)
                    self.assertEqual(who, first_of(house, book, rule, begun, last))
                    self.assertFalse(is_dead(book, begun, who) or is_out(book, begun, who))

    def test_one_sits_or_nobody(self):
        for house, book, rule, day in some_thrones(172, 150, 8):
            pairs = reigns(house, book, rule, day + 20)
            self.assertEqual(list(pairs), sorted(pairs))
            self.assertEqual(pairs[0][0], house[rule[0][0]][0])
            for one, other in zip(pairs, pairs[1:]):
                self.assertLess(one[0], other[0])
                self.assertNotEqual(one[1], other[1])
            for asked in range(day + 20):
                by_pairs = ([-1] + [who for begun, who in pairs if begun <= asked])[-1]
                self.assertEqual(sitter_at(house, book, rule, asked), by_pairs)

    def test_nothing_hangs_on_what_befalls_behind_the_day(self):
        for house, book, rule, day in some_thrones(173, 250, 8):
            born = house[:born_by(house, day)]
            so_far = book_up_to(book, day)
            for ask in (reigns, sitter_at, last_at, regent_at, reign_paper):
                self.assertEqual(ask(house, book, rule, day), ask(born, so_far, rule, day))
            news = tuple(one for one in book if one[1] == day)
            self.assertEqual(moments(house, book, rule, day, news), moments(born, so_far, rule, day, news))
            later = reigns(house, book, rule, day + 30)
            self.assertEqual(tuple(pair for pair in later if pair[0] <= day), reigns(house, book, rule, day))
            paper = reign_paper(house, book, rule, day)
            self.assertTrue(right_reigns(born, so_far, rule, day, paper))
            self.assertEqual(reign_paper(house, book, rule, day + 30)[:len(paper)], paper)


if __name__ == "__main__":
    unittest.main()
