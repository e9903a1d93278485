"""Point [7]: rows and rules."""

import unittest

from tests.makers import FAMILY, MEN, ODD_THINGS, WAYS, listed, row_of
from thronewalk.errors import NoRule
from thronewalk.rules import check_rule

ROW = (2, "first", 1, "lines")


class CheckRule(unittest.TestCase):
    def lets_by(self, thing, house=FAMILY):
        self.assertIsNone(check_rule(house, thing))

    def refuses(self, thing, house=FAMILY):
        with self.assertRaises(NoRule):
            check_rule(house, thing)

    def test_each_word(self):
        for men in MEN:
            for way in WAYS:
                for wed in (0, 1):
                    self.lets_by(((2, men, wed, way),))

    def test_how_many_rows(self):
        self.refuses(())
        for many in (1, 2, 3):
            self.lets_by((ROW,) * many)
        for many in (4, 5, 60):
            self.refuses((ROW,) * many)

    def test_founders_are_folk_of_the_house(self):
        self.lets_by(((0, "alike", 0, "age"),))
        self.lets_by(((9, "alike", 0, "age"),))
        for founder in (10, -1, -2, -10, 10 ** 40, True, False, None, "2", (2,), [2]):
            self.refuses(((founder, "alike", 0, "age"),))
            self.refuses(((9, "alike", 0, "age"), (founder, "alike", 0, "age")))

    def test_other_words(self):
        for word in ("", "Alike", "lines", "first ", None, True, 0, ("first",), ["first"], {}):
            self.refuses(((2, word, 1, "lines"),))
        for word in ("", "Lines", "alike", "line", None, True, 0, ("lines",), ["lines"], {}):
            self.refuses(((2, "first", 1, word),))

    def test_wed_is_0_or_1(self):
        for wed in (True, False, 2, -1, 10 ** 40, None, "1", "wed", (1,), [1]):
            self.refuses(((2, "first", wed, "lines"),))
            self.refuses((ROW, (2, "first", wed, "lines")))

    def test_no_founder_comes_behind_the_first_ones(self):
        self.lets_by(((3, "alike", 0, "age"), (4, "alike", 0, "age")))
        self.lets_by(((4, "alike", 0, "age"), (3, "alike", 0, "age")))
        self.lets_by(((4, "alike", 0, "age"), (0, "alike", 0, "age"), (2, "only", 1, "near")))
        self.refuses(((3, "alike", 0, "age"), (5, "alike", 0, "age")))
        self.refuses(((3, "alike", 0, "age"), (0, "alike", 0, "age"), (5, "alike", 0, "age")))
        self.refuses(((3, "alike", 0, "age"), (5, "alike", 0, "age"), (0, "alike", 0, "age")))
        self.refuses(((0, "alike", 0, "age"), (2, "alike", 0, "age")))
        self.lets_by(((3, "alike", 0, "age"), (0, "alike", 0, "age"), (2, "alike", 0, "age")))

    def test_forms(self):
        self.refuses([ROW])
        self.refuses((list(ROW),))
        self.refuses(listed((ROW,)))
        self.refuses(ROW)
        self.refuses((ROW[:3],))
        self.refuses((ROW + (0,),))
        self.refuses((ROW, ()))
        self.refuses((ROW, None))

    def test_anything_else(self):
        for thing in ODD_THINGS:
            self.refuses(thing)
            self.refuses((thing,))
            self.refuses((ROW, thing))

    def test_sixty_one_folk(self):
        self.lets_by(((60, "only", 1, "near"),), row_of(61))
        self.refuses(((61, "only", 1, "near"),), row_of(61))


if __name__ == "__main__":
    unittest.main()
