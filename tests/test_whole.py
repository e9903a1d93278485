"""Point [3], over the whole: (a), (b) of places, and (c); and point [2] of what is handed in."""

import unittest

from tests import slow
from tests.makers import FAMILY, all_rows, ladder, some_cases
from thronewalk.degrees import degrees
from thronewalk.places import right_place
from thronewalk.placing import comes_ahead, parting, place_of
from thronewalk.reach import reach_of, right_reach, stands
from thronewalk.steps import is_line, lines_many, steps_of
from thronewalk.walks import least_line, walk


class WalkAndLeastLines(unittest.TestCase):
    """(a)"""

    def test_they_are_one(self):
        for house, book, row, day in some_cases(61, 300, 10):
            by_lines = tuple(slow.least_lines(house, book, row, day))
            self.assertEqual(slow.plain_walk(house, book, row, day), by_lines)
            self.assertEqual(walk(house, book, row, day), by_lines)

    def test_in_the_family_by_each_row(self):
        for founder in range(len(FAMILY)):
            for row in all_rows(founder):
                for day in (0, 10, 20, 40, 60, 70):
                    self.assertEqual(walk(FAMILY, (), row, day), tuple(slow.least_lines(FAMILY, (), row, day)))


class Places(unittest.TestCase):
    """(b)"""

    def test_what_is_let_by_is_the_place(self):
        let_by = 0
        for house, book, row, day in some_cases(62, 60, 6):
            order = walk(house, book, row, day)
            for line in slow.lines(house, book, row, day):
                who = line[-1]
                for ahead in slow.subsets(range(len(house))):
                    if right_place(house, book, row, day, who, (line, ahead)):
                        let_by += 1
                        self.assertEqual(line, least_line(house, book, row, day, who))
                        self.assertEqual(ahead, tuple(sorted(order[:order.index(who)])))
                        self.assertEqual((line, ahead), place_of(house, book, row, day, who))
            for who in order:
                ahead = place_of(house, book, row, day, who)[1]
                others = [other for other in order if other != who]
                self.assertEqual(
                    list(ahead), sorted(o for o in others if comes_ahead(house, book, row, day, o, who)))
        self.assertGreater(let_by, 100)


class Reached(unittest.TestCase):
    """(c)"""

    def test_ever_after(self):
        for house, book, row, _ in some_cases(63, 150, 9):
            before = set()
            for day in range(30):
                now = {pair[0] for pair in reach_of(house, book, row, day)}
                self.assertEqual(now, {who for who in range(len(house)) if lines_many(house, book, row, day, who)})
                self.assertEqual(now, set(walk(house, book, row, day)))
                self.assertLessEqual(before, now)
                before = now


class AskedTwice(unittest.TestCase):
    """The same question is answered alike, and a long house is answered at all."""

    def test_the_same_again(self):
        for house in (FAMILY, ladder(60), ladder(61)):
            for row in all_rows(0):
                asks = (
                    lambda: [steps_of(house, (), row, 90, who) for who in range(len(house))],
                    lambda: [stands(house, (), row, 90, who) for who in range(len(house))],
                    lambda: reach_of(house, (), row, 90), lambda: walk(house, (), row, 90),
                    lambda: least_line(house, (), row, 90, 2), lambda: place_of(house, (), row, 90, 2),
                    lambda: parting(house, (), row, 90, 0, 2), lambda: comes_ahead(house, (), row, 90, 0, 2),
                    lambda: degrees(house, (), row, 90, 2), lambda: is_line(house, (), row, 90, (0, 2)),
                    lambda: right_reach(house, (), row, 90, reach_of(house, (), row, 90)),
                )
                self.assertEqual([ask() for ask in asks], [ask() for ask in asks])


if __name__ == "__main__":
    unittest.main()
