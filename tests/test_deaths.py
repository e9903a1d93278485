"""Point [23]: few deaths; and [3] (i): behind no fewer."""

import unittest
from itertools import combinations, permutations

from tests.makers import ODD_THINGS, Dice, as_truths, changed, is_plain, listed
from thronewalk.deaths import right_join, to_join, to_part, to_seat
from thronewalk.errors import NoPlace

SIXTY_ONE = tuple(range(61))


def small_orders(numbers=(0, 1, 2)):
    """All orders of some of these numbers."""
    return [order for many in range(len(numbers) + 1) for order in permutations(numbers, many)]


def some_orders(seed, many, most):
    dice = Dice(seed)
    return [(some_order(dice, most), some_order(dice, most)) for _ in range(many)]


def some_order(dice, most):
    left = list(range(most))
    return tuple(left.pop(dice.below(len(left))) for _ in range(dice.below(most + 1)))


def behind(order, deaths):
    return [who for who in order if who not in deaths]


def first(order, deaths):
    return (behind(order, deaths) + [-1])[0]


def all_deaths(*orders):
    """Each set of deaths among the orders' numbers, the fewest ones first, and of as few the least tuple."""
    numbers = sorted({who for order in orders for who in order})
    return [deaths for many in range(len(numbers) + 1) for deaths in combinations(numbers, many)]


class ToSeat(unittest.TestCase):
    def test_ahead_rising(self):
        self.assertEqual(to_seat((4, 2, 9, 0), 9), (2, 4))
        self.assertEqual(to_seat((4, 2, 9, 0), 4), ())
        self.assertEqual(to_seat((4, 2, 9, 0), 0), (2, 4, 9))
        self.assertEqual(to_seat((60,), 60), ())
        self.assertEqual(to_seat(SIXTY_ONE[::-1], 0), SIXTY_ONE[1:])

    def test_not_in_the_order(self):
        for order, who in (((), 0), ((1, 2), 0), ((1, 2), 3), ((1, 2), -1), (SIXTY_ONE[:60], 60)):
            with self.assertRaises(NoPlace):
                to_seat(order, who)

    def test_behind_no_fewer(self):
        for order in small_orders((0, 1, 2, 3)):
            for who in order:
                seating = [deaths for deaths in all_deaths(order) if first(order, deaths) == who]
                self.assertEqual(to_seat(order, who), seating[0])
                self.assertTrue(all(len(deaths) > len(seating[0]) for deaths in seating[1:]))
                self.assertTrue(is_plain(to_seat(order, who)))


class ToPart(unittest.TestCase):
    def test_unlike_at_the_first_place(self):
        self.assertEqual(to_part((1, 2), (2, 1)), ((), 1, 2))
        self.assertEqual(to_part((0,), (60,)), ((), 0, 60))

    def test_unlike_further_on(self):
        self.assertEqual(to_part((5, 1, 2, 7), (5, 1, 7, 2)), ((1, 5), 2, 7))
        self.assertEqual(to_part((9, 3, 2), (9, 3, 1)), ((3, 9), 2, 1))

    def test_alike(self):
        for order in ((), (0,), (3, 1, 2), SIXTY_ONE):
            self.assertEqual(to_part(order, order), ())

    def test_one_the_beginning_of_the_other(self):
        self.assertEqual(to_part((4, 3), (4, 3, 0)), ((3, 4), -1, 0))
        self.assertEqual(to_part((4, 3, 0), (4, 3)), ((3, 4), 0, -1))
        self.assertEqual(to_part((), (7, 1)), ((), -1, 7))
        self.assertEqual(to_part((7, 1), ()), ((), 7, -1))
        self.assertEqual(to_part(SIXTY_ONE, SIXTY_ONE[:60]), (SIXTY_ONE[:60], 60, -1))

    def test_behind_no_fewer(self):
        for one in small_orders():
            for other in small_orders((0, 1, 2, 3)):
                parted = [
                    (deaths, first(one, deaths), first(other, deaths)) for deaths in all_deaths(one, other)
                    if first(one, deaths) != first(other, deaths)]
                told = to_part(one, other)
                self.assertEqual(told, parted[0] if parted else ())
                self.assertTrue(all(len(other_way[0]) > len(told[0]) for other_way in parted[1:]))
                self.assertEqual(told == (), one == other)
                self.assertTrue(is_plain(told))


class ToJoin(unittest.TestCase):
    def test_joined_already(self):
        self.assertEqual(to_join((3, 1), (3, 2)), ((), 3))
        self.assertEqual(to_join(SIXTY_ONE, SIXTY_ONE), ((), 0))

    def test_the_fewest(self):
        self.assertEqual(to_join((1, 2, 3), (3, 2, 1)), ((1, 2), 3))
        self.assertEqual(to_join((1, 2, 5), (4, 2, 5)), ((1, 4), 2))
        self.assertEqual(to_join((1, 2), (2,)), ((1,), 2))

    def test_a_death_in_both_counts_once(self):
        # 9 is behind three in each order, but it is the same three.
        self.assertEqual(to_join((7, 8, 6, 9, 0), (0, 6, 7, 8, 9)), ((0, 6), 7))
        self.assertEqual(to_join((7, 8, 9), (8, 7, 9)), ((7,), 8))

    def test_of_as_few_the_least_tuple(self):
        # Each takes one death: of 5, that 2 comes first; of 2, that 5 does.
        self.assertEqual(to_join((5, 2), (2, 5)), ((2,), 5))
        self.assertEqual(to_join((2, 5), (5, 2)), ((2,), 5))
        # Each takes two: (0, 3), (1, 2) and such.
        self.assertEqual(to_join((3, 4, 5), (0, 4, 5)), ((0, 3), 4))
        self.assertEqual(to_join((10, 9, 2), (9, 10, 2)), ((9,), 10))

    def test_no_number_in_both(self):
        for one, other in (((), ()), ((1,), ()), ((), (1,)), ((1, 2), (0, 3)), (SIXTY_ONE[:30], SIXTY_ONE[30:])):
            self.assertEqual(to_join(one, other), ())

    def test_sixty_one(self):
        self.assertEqual(to_join(SIXTY_ONE, SIXTY_ONE[::-1]), (tuple(range(60)), 60))
        self.assertEqual(to_join(SIXTY_ONE, (60,)), (tuple(range(60)), 60))
        for one, other in some_orders(321, 30, 61):
            told = to_join(one, other)
            self.assertEqual(told == (), not set(one) & set(other))
            self.assertIs(right_join(one, other, told), told != ())

    def test_behind_no_fewer(self):
        pairs = [(one, other) for one in small_orders() for other in small_orders((1, 2, 3))]
        for one, other in pairs + some_orders(322, 60, 7):
            joined = [
                (deaths, first(one, deaths)) for deaths in all_deaths(one, other)
                if first(one, deaths) == first(other, deaths) != -1]
            self.assertEqual(to_join(one, other), joined[0] if joined else ())
            self.assertTrue(is_plain(to_join(one, other)))


class RightJoin(unittest.TestCase):
    ONE, OTHER = (5, 1, 2, 7), (1, 5, 7, 2)

    def says(self, thing, one=ONE, other=OTHER):
        told = right_join(one, other, thing)
        self.assertIs(type(told), bool)
        return told

    def test_the_fewest_and_more(self):
        self.assertTrue(self.says(((1,), 5)))
        self.assertTrue(self.says(((5,), 1)))
        self.assertTrue(self.says(((1, 2), 5)))
        self.assertTrue(self.says(((1, 2, 7), 5)))
        self.assertTrue(self.says(((1, 2, 5), 7)))
        self.assertTrue(self.says(((), 3), (3, 1), (3,)))

    def test_not_joined(self):
        self.assertFalse(self.says(((), 5)))
        self.assertFalse(self.says(((1, 5), 2)))
        self.assertFalse(self.says(((1, 5), 7)))
        self.assertFalse(self.says(((1,), 1)))
        self.assertFalse(self.says(((1,), 2)))

    def test_nobody(self):
        self.assertFalse(self.says(((1, 2, 5, 7), -1)))
        self.assertFalse(self.says(((), -1), (), ()))
        self.assertFalse(self.says(((1,), -1), (1,), ()))
        self.assertFalse(self.says(((), -1)))

    def test_deaths_that_do_not_rise(self):
        self.assertFalse(self.says(((2, 1), 5)))
        self.assertFalse(self.says(((1, 1), 5)))
        self.assertFalse(self.says(((1, 2, 2), 5)))

    def test_deaths_in_neither_order(self):
        self.assertFalse(self.says(((0, 1), 5)))
        self.assertFalse(self.says(((1, 9), 5)))
        self.assertFalse(self.says(((-1, 1), 5)))
        self.assertFalse(self.says(((1, 10 ** 59), 5)))
        # In one of both is enough.
        self.assertTrue(self.says(((1, 4), 5), (1, 5), (4, 5)))
        self.assertTrue(self.says(((1, 4, 6), 5), (1, 5, 6), (4, 5)))

    def test_who_in_one_order_alone(self):
        self.assertFalse(self.says(((1,), 5), (1, 5), (1, 4)))
        self.assertFalse(self.says(((1,), 4), (1, 5), (1, 4)))

    def test_truths(self):
        self.assertTrue(self.says(((0,), 1), (0, 1), (1, 0)))
        for thing in (((False,), 1), ((0,), True), ((False,), True)):
            self.assertFalse(self.says(thing, (0, 1), (1, 0)))
        self.assertFalse(self.says(as_truths(((0,), 1)), (0, 1), (1, 0)))

    def test_anything_else(self):
        for thing in ODD_THINGS:
            self.assertFalse(self.says(thing))
            self.assertFalse(self.says((thing, 5)))
            self.assertFalse(self.says(((1,), thing)))
            self.assertFalse(self.says((thing, thing)))
            self.assertEqual(self.says(((thing,), 5)), self.by_words(((thing,), 5)))
            self.assertFalse(self.says(((1,), 5, thing)))
        for thing in ((), ((1,),), ((1,), 5, 5), ([1], 5), [(1,), 5], listed(((1,), 5)), (5, (1,))):
            self.assertFalse(self.says(thing))

    def test_bent_at_one_place(self):
        for right in (((1,), 5), ((1, 2), 5), ((1, 2, 5), 7)):
            self.assertTrue(self.says(right))
            for thing in changed(right):
                self.assertEqual(self.says(thing), self.by_words(thing))

    def by_words(self, thing):
        if type(thing) is not tuple or len(thing) != 2:
            return False
        deaths, who = thing
        if type(deaths) is not tuple or type(who) is not int or {type(part) for part in deaths} - {int}:
            return False
        if list(deaths) != sorted(set(deaths)) or not set(deaths) <= {*self.ONE, *self.OTHER}:
            return False
        return behind(self.ONE, deaths)[:1] == behind(self.OTHER, deaths)[:1] == [who]

    def test_each_pair_of_small_orders(self):
        for one in small_orders():
            for other in small_orders((1, 2, 3)):
                for deaths in all_deaths((0, 1, 2, 3)):
                    for who in range(-1, 5):
                        right = who != -1 and first(one, deaths) == who and first(other, deaths) == who
                        right = right and set(deaths) <= {*one, *other}
                        self.assertEqual(self.says((deaths, who), one, other), right)

    def test_what_is_handed_in_stays(self):
        thing = ([1], [5])
        self.assertFalse(self.says(thing))
        self.assertEqual(thing, ([1], [5]))


if __name__ == "__main__":
    unittest.main()
