"""Point [4]: houses."""

import unittest

from tests.makers import FAMILY, LAST, ODD_THINGS, Dice, as_truths, is_plain, ladder, listed, row_of, some_house
from thronewalk.errors import NoHouse
from thronewalk.folk import born_by, check_house, children_of

MAN = (5, -1, -1, 1, 1)
WOMAN = (5, -1, -1, 0, 1)


class CheckHouse(unittest.TestCase):
    def lets_by(self, thing):
        self.assertIsNone(check_house(thing))

    def refuses(self, thing):
        with self.assertRaises(NoHouse):
            check_house(thing)

    def test_ordinary_houses(self):
        self.lets_by(FAMILY)
        self.lets_by(ladder(60))
        for seed in range(30):
            self.lets_by(some_house(Dice(seed), 1 + seed, 20))

    def test_how_many_folk(self):
        self.refuses(())
        self.lets_by((MAN,))
        self.lets_by(row_of(60))
        self.refuses(row_of(61))
        self.refuses(ladder(61))

    def test_days_never_fall(self):
        self.lets_by((MAN, MAN, WOMAN))
        self.lets_by((MAN, (6, -1, -1, 1, 1)))
        self.refuses((MAN, (4, -1, -1, 1, 1)))
        self.refuses((MAN, (7, -1, -1, 1, 1), (6, -1, -1, 1, 1)))

    def test_what_a_day_is(self):
        self.lets_by(((0, -1, -1, 1, 1),))
        self.lets_by(((LAST, -1, -1, 1, 1),))
        self.refuses(((LAST + 1, -1, -1, 1, 1),))
        self.refuses(((-1, -1, -1, 1, 1),))
        self.refuses(((10 ** 59, -1, -1, 1, 1),))

    def test_fathers(self):
        self.lets_by((MAN, (6, 0, -1, 0, 1)))
        self.refuses((WOMAN, (6, 0, -1, 0, 1)))
        self.refuses((MAN, (5, 0, -1, 0, 1)))
        self.refuses(((5, 1, -1, 0, 1), MAN))
        self.refuses(((5, 1, -1, 0, 1), (6, -1, -1, 1, 1)))
        self.refuses((MAN, (6, 1, -1, 1, 1)))
        self.refuses((MAN, (6, 2, -1, 1, 1)))
        self.refuses((MAN, (6, 10 ** 40, -1, 1, 1)))
        self.refuses((MAN, (6, -2, -1, 1, 1)))
        self.refuses((MAN, MAN, (6, -10 ** 40, -1, 1, 1)))

    def test_mothers(self):
        self.lets_by((WOMAN, (6, -1, 0, 1, 1)))
        self.refuses((MAN, (6, -1, 0, 1, 1)))
        self.refuses((WOMAN, (5, -1, 0, 1, 1)))
        self.refuses(((5, -1, 1, 1, 1), WOMAN))
        self.refuses(((5, -1, 1, 1, 1), (6, -1, -1, 0, 1)))
        self.refuses((WOMAN, (6, -1, 1, 0, 1)))
        self.refuses((WOMAN, (6, -1, 2, 0, 1)))
        self.refuses((WOMAN, (6, -1, -2, 0, 1)))
        self.refuses((WOMAN, WOMAN, (6, -1, -3, 0, 1)))

    def test_both_parents(self):
        self.lets_by((MAN, WOMAN, (6, 0, 1, 0, 0)))
        self.refuses((MAN, WOMAN, (6, 1, 0, 0, 0)))
        self.refuses((MAN, WOMAN, (6, 0, 0, 0, 0)))
        self.refuses((MAN, WOMAN, (6, 1, 1, 0, 0)))

    def test_a_fault_far_behind_is_seen(self):
        self.refuses(row_of(59) + ((58, -1, -1, 1, 1, 1),))
        self.refuses(row_of(59) + ((57, -1, -1, 1, 1),))
        self.refuses(row_of(59) + ((59, 0, -1, 1, 1),))
        self.refuses(row_of(59) + (None,))

    def test_man_and_wed_are_0_or_1(self):
        for man in (0, 1):
            for wed in (0, 1):
                self.lets_by(((3, -1, -1, man, wed),))
        for other in (2, -1, 10 ** 30, None, "1", (1,), ()):
            self.refuses(((3, -1, -1, other, 1),))
            self.refuses(((3, -1, -1, 1, other),))

    def test_truths_are_no_numbers(self):
        house = ((0, -1, -1, 1, 1), (0, -1, -1, 0, 1), (1, 0, 1, 1, 1))
        self.lets_by(house)
        for who, folk in enumerate(house):
            for at, part in enumerate(folk):
                if part in (0, 1):
                    truth = folk[:at] + (bool(part),) + folk[at + 1:]
                    self.refuses(house[:who] + (truth,) + house[who + 1:])
        self.refuses(as_truths(house))

    def test_parts_that_are_no_numbers(self):
        for at in range(5):
            for other in (None, "", "5", (), (5,), [5], {}, {5: 5}):
                self.refuses((MAN[:at] + (other,) + MAN[at + 1:],))

    def test_lists_are_no_tuples(self):
        self.refuses(list(FAMILY))
        self.refuses(listed(FAMILY))
        self.refuses((list(MAN),))
        self.refuses((MAN, list(MAN)))
        self.refuses({0: MAN})

    def test_a_folk_has_five_things(self):
        self.refuses((MAN[:4],))
        self.refuses((MAN + (1,),))
        self.refuses(((),))
        self.refuses((MAN, ()))

    def test_anything_else(self):
        for thing in ODD_THINGS:
            self.refuses(thing)
            self.refuses((thing,))
            self.refuses((MAN, thing))
        self.refuses(MAN)

    def test_a_refusal_changes_nothing(self):
        self.refuses((MAN, (4, -1, -1, 1, 1)))
        self.lets_by((MAN,))
        self.refuses((MAN, (4, -1, -1, 1, 1)))


class BornBy(unittest.TestCase):
    def test_days_of_the_family(self):
        told = [born_by(FAMILY, day) for day in (0, 9, 10, 19, 20, 39, 40, 60, 69, 70, 71, LAST)]
        self.assertEqual(told, [2, 2, 3, 3, 5, 5, 7, 9, 9, 10, 10, 10])

    def test_ahead_of_the_first_day(self):
        self.assertEqual(born_by((MAN, WOMAN), 0), 0)
        self.assertEqual(born_by((MAN, WOMAN), 4), 0)
        self.assertEqual(born_by((MAN, WOMAN), 5), 2)

    def test_sixty_one(self):
        self.assertEqual(born_by(row_of(61), 60), 61)
        self.assertEqual(born_by(row_of(61), 59), 60)

    def test_it_is_a_number(self):
        self.assertTrue(is_plain(born_by(FAMILY, 3)))


class ChildrenOf(unittest.TestCase):
    def test_of_the_family(self):
        told = [children_of(FAMILY, who) for who in range(len(FAMILY))]
        self.assertEqual(told, [(2, 3, 4), (2, 3), (5, 8), (6, 8), (9,), (7,), (7,), (), (), ()])

    def test_sixty_one(self):
        self.assertEqual(children_of(ladder(61), 58), (59, 60))
        self.assertEqual(children_of(ladder(61), 60), ())

    def test_it_is_a_plain_tuple(self):
        self.assertTrue(is_plain(children_of(FAMILY, 0)))
        self.assertTrue(is_plain(children_of(FAMILY, 9)))


if __name__ == "__main__":
    unittest.main()
