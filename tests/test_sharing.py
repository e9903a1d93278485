"""Point [24]: sharings at rest."""

import unittest
from itertools import product

from tests import slow_sharing
from tests.makers import ODD_THINGS, Dice, as_truths, changed, listed
from thronewalk.sharing import at_rest

# Throne 0 would rather have 1, throne 1 would rather have 2; folk 1 would rather have throne 1, 2 rather throne 0.
ORDERS = ((1, 2, 3), (2, 1, 3))
WISHES = ((1, (1, 0)), (2, (0, 1)), (3, (0,)))


def some_sharing_case(dice, thrones, numbers):
    """A tuple (orders, wishes), the numbers up to 60 among them."""
    known = [number if number < 3 else 60 - number for number in range(numbers)]
    orders = tuple(some_of(dice, known, dice.below(numbers + 1)) for _ in range(thrones))
    wishing = sorted(who for who in known if dice.below(6) > 0)
    wishes = tuple((who, some_of(dice, range(thrones), dice.below(thrones + 1))) for who in wishing)
    return orders, wishes


def some_of(dice, things, many):
    left = list(things)
    return tuple(left.pop(dice.below(len(left))) for _ in range(many))


class AtRest(unittest.TestCase):
    def says(self, thing, orders=ORDERS, wishes=WISHES):
        told = at_rest(orders, wishes, thing)
        self.assertIs(type(told), bool)
        return told

    def test_the_two_that_are(self):
        self.assertTrue(self.says((1, 2)))
        self.assertTrue(self.says((2, 1)))

    def test_a_bare_throne_with_one_who_would_take_it(self):
        self.assertFalse(self.says((-1, 2)))
        self.assertFalse(self.says((1, -1)))
        self.assertFalse(self.says((-1, -1)))

    def test_a_bare_throne_that_nobody_would_take(self):
        self.assertTrue(self.says((-1,), ((1, 2),), ()))
        self.assertTrue(self.says((-1,), ((1, 2),), ((1, ()), (2, ()))))
        self.assertTrue(self.says((-1,), ((),), ((1, (0,)), (2, (0,)))))
        self.assertTrue(self.says((-1,), ((1, 2),), ((3, (0,)),)))
        self.assertFalse(self.says((-1,), ((1, 2),), ((2, (0,)),)))
        # 1 has a dearer one than the bare throne.
        self.assertTrue(self.says((1, -1), ((1,), (1,)), ((1, (0, 1)),)))
        self.assertFalse(self.says((1, -1), ((1,), (1,)), ((1, (1, 0)),)))

    def test_one_who_wishes_a_dearer_one_whose_order_has_them_ahead(self):
        orders = ((1, 2), (1, 2))
        wishes = ((1, (1, 0)), (2, (1, 0)))
        self.assertTrue(self.says((2, 1), orders, wishes))
        self.assertFalse(self.says((1, 2), orders, wishes))
        # The order has them behind.
        self.assertTrue(self.says((1, 2), ((1, 2), (2, 1)), wishes))
        # The throne would, but they have a dearer one.
        self.assertTrue(self.says((1, 2), orders, ((1, (0, 1)), (2, (1, 0)))))

    def test_one_without_a_throne_ahead(self):
        self.assertFalse(self.says((2,), ((1, 2),), ((1, (0,)), (2, (0,)))))
        self.assertTrue(self.says((1,), ((1, 2),), ((1, (0,)), (2, (0,)))))
        self.assertTrue(self.says((2,), ((1, 2),), ((1, ()), (2, (0,)))))
        self.assertTrue(self.says((2,), ((1, 2),), ((2, (0,)),)))

    def test_another_length(self):
        for sharing in ((), (1,), (2,), (1, 2, -1), (1, 2, 3), (2, 1, -1)):
            self.assertFalse(self.says(sharing))

    def test_a_number_twice(self):
        self.assertFalse(self.says((1, 1)))
        self.assertFalse(self.says((2, 2)))
        self.assertFalse(self.says((5, 5), ((5,), (5,)), ((5, (0, 1)),)))

    def test_bare_twice(self):
        self.assertTrue(self.says((-1, -1), ((1,), (2,)), ()))
        self.assertTrue(self.says((-1,) * 6, ((),) * 6, ()))

    def test_a_number_that_is_not_in_the_order(self):
        self.assertFalse(self.says((4, 2), ORDERS, WISHES + ((4, (0, 1)),)))
        self.assertFalse(self.says((1, 3), ((1,), (2,)), ((1, (0,)), (3, (1,)))))
        for number in (0, 60, 61, -2, 10 ** 59, -10 ** 59):
            self.assertFalse(self.says((number, 2)))

    def test_a_number_without_that_throne_in_its_wishes(self):
        self.assertFalse(self.says((1, 3)))
        self.assertFalse(self.says((2, 3)))
        self.assertFalse(self.says((1,), ((1,),), ()))
        self.assertFalse(self.says((1,), ((1,),), ((1, ()),)))

    def test_truths(self):
        self.assertTrue(self.says((1, 0), ((1, 0), (0, 1)), ((0, (1,)), (1, (0,)))))
        for sharing in ((True, 0), (1, False), (True, False)):
            self.assertFalse(self.says(sharing, ((1, 0), (0, 1)), ((0, (1,)), (1, (0,)))))
        self.assertFalse(self.says(as_truths((1, 2))))

    def test_anything_else(self):
        for thing in ODD_THINGS:
            self.assertFalse(self.says(thing))
            self.assertFalse(self.says((thing, thing)))
            if thing not in (1, 2) or thing is True:
                self.assertFalse(self.says((1, thing)))
                self.assertFalse(self.says((thing, 2)))
        for thing in (listed((1, 2)), ((1, 2),), (((1,), (2,))), "12", ("1", "2"), {0: 1, 1: 2}):
            self.assertFalse(self.says(thing))

    def test_bent_at_one_place(self):
        for right in ((1, 2), (2, 1)):
            for thing in changed(right):
                self.assertEqual(self.says(thing), slow_sharing.is_at_rest(ORDERS, WISHES, thing))

    def test_as_the_words_say(self):
        dice = Dice(331)
        resting = 0
        for _ in range(150):
            thrones = 1 + dice.below(3)
            orders, wishes = some_sharing_case(dice, thrones, 4)
            for sharing in product((-1, 0, 1, 2, 57, 3), repeat=thrones):
                right = slow_sharing.is_at_rest(orders, wishes, sharing)
                self.assertEqual(self.says(sharing, orders, wishes), right)
                resting += right
        self.assertGreater(resting, 100)

    def test_six_thrones_and_sixty_one_numbers(self):
        orders = tuple(tuple(range(at, 61)) + tuple(range(at)) for at in range(6))
        wishes = tuple((who, (5, 4, 3, 2, 1, 0)) for who in range(61))
        self.assertTrue(self.says((0, 1, 2, 3, 4, 5), orders, wishes))
        self.assertFalse(self.says((1, 0, 2, 3, 4, 5), orders, wishes))
        self.assertFalse(self.says((0, 1, 2, 3, 4, 60), orders, wishes))

    def test_what_is_handed_in_stays(self):
        thing = ([1], {0: [2]})
        self.assertFalse(self.says(thing))
        self.assertEqual(thing, ([1], {0: [2]}))


if __name__ == "__main__":
    unittest.main()
