"""Point [25]: the thrones ask, or the folk do; and [3] (j)."""

import unittest
from itertools import permutations

from tests import slow_sharing
from tests.makers import Dice, is_plain
from tests.test_sharing import ORDERS, WISHES, some_sharing_case
from thronewalk.asking import by_folk, by_thrones
from thronewalk.sharing import at_rest


class ByThrones(unittest.TestCase):
    def test_takes(self):
        told = by_thrones(ORDERS, WISHES, (0, 1))
        self.assertEqual(told, ((1, 2), ((0, 1, "takes"), (1, 2, "takes"))))

    def test_the_turn(self):
        told = by_thrones(ORDERS, WISHES, (1, 0))
        self.assertEqual(told, ((1, 2), ((1, 2, "takes"), (0, 1, "takes"))))

    def test_no_for_want_of_a_wish(self):
        told = by_thrones(((4, 1, 5, 2),), ((1, ()), (2, (0,)), (3, (0,))), (0,))
        self.assertEqual(told, ((2,), ((0, 4, "no"), (0, 1, "no"), (0, 5, "no"), (0, 2, "takes"))))

    def test_no_for_a_dearer_one(self):
        orders = ((1, 2), (1, 2))
        told = by_thrones(orders, ((1, (0, 1)), (2, (0, 1))), (0, 1))
        self.assertEqual(told, ((1, 2), ((0, 1, "takes"), (1, 1, "no"), (1, 2, "takes"))))

    def test_turns_and_the_throne_that_is_left_asks_on(self):
        orders = ((1, 2), (1, 2))
        told = by_thrones(orders, ((1, (1, 0)), (2, (0, 1))), (0, 1))
        self.assertEqual(told, ((2, 1), ((0, 1, "takes"), (1, 1, "turns"), (0, 2, "takes"))))
        # It's ahead in the turn, so it asks on before the next one asks at all.
        orders = ((1, 2), (1, 2), (3, 2))
        wishes = ((1, (1, 0)), (2, (2, 0)), (3, ()))
        told = by_thrones(orders, wishes, (0, 1, 2))
        asks = ((0, 1, "takes"), (1, 1, "turns"), (0, 2, "takes"), (2, 3, "no"), (2, 2, "turns"))
        self.assertEqual(told, ((-1, 1, 2), asks))

    def test_left_with_nobody_whom_it_has_not_asked(self):
        told = by_thrones(((1,), (1,)), ((1, (1, 0)),), (0, 1))
        self.assertEqual(told, ((-1, 1), ((0, 1, "takes"), (1, 1, "turns"))))
        told = by_thrones(((1,), (1,)), ((1, (1, 0)),), (1, 0))
        self.assertEqual(told, ((-1, 1), ((1, 1, "takes"), (0, 1, "no"))))

    def test_nobody_to_ask(self):
        self.assertEqual(by_thrones(((),), ((1, (0,)),), (0,)), ((-1,), ()))
        self.assertEqual(by_thrones(((), (1,), ()), ((1, (0, 1, 2)),), (2, 0, 1)), ((-1, 1, -1), ((1, 1, "takes"),)))

    def test_no_wishes(self):
        self.assertEqual(by_thrones(((1, 2), (2,)), (), (1, 0))[0], (-1, -1))
        self.assertEqual(by_thrones(((1, 2), (2,)), (), (1, 0))[1], ((1, 2, "no"), (0, 1, "no"), (0, 2, "no")))

    def test_as_the_words_say_in_each_turn(self):
        dice = Dice(341)
        words = {"no": 0, "takes": 0, "turns": 0}
        for _ in range(120):
            thrones = 1 + dice.below(4)
            orders, wishes = some_sharing_case(dice, thrones, 5)
            before = repr((orders, wishes))
            for turn in permutations(range(thrones)):
                told = by_thrones(orders, wishes, turn)
                self.assertEqual(told, slow_sharing.by_thrones(orders, wishes, turn))
                self.assertTrue(is_plain(told))
                asked = [ask[:2] for ask in told[1]]
                self.assertEqual(len(asked), len(set(asked)))
                for throne, who, word in told[1]:
                    words[word] += 1
            self.assertEqual(repr((orders, wishes)), before)
        self.assertGreater(min(words.values()), 100)


class ByFolk(unittest.TestCase):
    def test_each_the_dearest(self):
        self.assertEqual(by_folk(ORDERS, WISHES), (2, 1))

    def test_a_throne_leaves_the_one_who_had_it(self):
        self.assertEqual(by_folk(((2, 1),), ((1, (0,)), (2, (0,)))), (2,))
        # 1 has it first, and goes on to the next one.
        self.assertEqual(by_folk(((2, 1), (1,)), ((1, (0, 1)), (2, (0,)))), (2, 1))
        # And is left there, too.
        self.assertEqual(by_folk(((2, 1), (3, 1)), ((1, (0, 1)), (2, (0,)), (3, (1,)))), (2, 3))

    def test_a_throne_keeps_the_one_ahead(self):
        self.assertEqual(by_folk(((1, 2), (2,)), ((1, (0,)), (2, (0, 1)))), (1, 2))
        self.assertEqual(by_folk(((1, 2),), ((1, (0,)), (2, (0,)))), (1,))

    def test_a_wish_for_a_throne_in_whose_order_one_does_not_stand(self):
        self.assertEqual(by_folk(((1,), (2,)), ((1, (1, 0)), (2, (0,)))), (1, -1))
        self.assertEqual(by_folk(((),), ((1, (0,)),)), (-1,))

    def test_no_wishes(self):
        self.assertEqual(by_folk(((1, 2), ()), ()), (-1, -1))
        self.assertEqual(by_folk(((1, 2), (1,)), ((1, ()), (2, ()))), (-1, -1))

    def test_as_the_words_say(self):
        dice = Dice(342)
        for _ in range(400):
            orders, wishes = some_sharing_case(dice, 1 + dice.below(6), 1 + dice.below(7))
            before = repr((orders, wishes))
            self.assertEqual(by_folk(orders, wishes), slow_sharing.by_folk(orders, wishes))
            self.assertTrue(is_plain(by_folk(orders, wishes)))
            self.assertEqual(repr((orders, wishes)), before)


class Whole(unittest.TestCase):
    """[3] (j), against all sharings at rest."""

    def better_for_throne(self, order, one, other):
        """Whether a throne has a better one in the first sharing."""
        if one == -1 or one == other:
            return False
        return other == -1 or order.index(one) < order.index(other)

    def better_for_folk(self, wished, one, other):
        if one == -1 or one == other:
            return False
        return other == -1 or wished.index(one) < wished.index(other)

    def throne_of(self, sharing, who):
        return sharing.index(who) if who in sharing else -1

    def look_over(self, orders, wishes, turns):
        resting = slow_sharing.all_at_rest(orders, wishes)
        told = {by_thrones(orders, wishes, turn)[0] for turn in turns}
        self.assertEqual(len(told), 1)
        for_thrones, for_folk = told.pop(), by_folk(orders, wishes)
        self.assertIn(for_thrones, resting)
        self.assertIn(for_folk, resting)
        self.assertIs(at_rest(orders, wishes, for_thrones), True)
        self.assertIs(at_rest(orders, wishes, for_folk), True)
        for sharing in resting:
            for throne, order in enumerate(orders):
                self.assertFalse(self.better_for_throne(order, sharing[throne], for_thrones[throne]))
            for who, wished in wishes:
                had = self.throne_of(for_folk, who)
                self.assertFalse(self.better_for_folk(wished, self.throne_of(sharing, who), had))
            bare = [who == -1 for who in sharing]
            self.assertEqual(bare, [who == -1 for who in for_thrones])
            self.assertEqual(bare, [who == -1 for who in for_folk])
        return len(resting)

    def test_the_two_ways_differ(self):
        self.assertEqual(self.look_over(ORDERS, WISHES, ((0, 1), (1, 0))), 2)

    def test_small_ones_in_each_turn(self):
        dice = Dice(343)
        for _ in range(150):
            thrones = 1 + dice.below(4)
            orders, wishes = some_sharing_case(dice, thrones, 2 + dice.below(4))
            self.look_over(orders, wishes, list(permutations(range(thrones))))

    def test_where_all_wish_all(self):
        dice = Dice(344)
        several = 0
        for _ in range(60):
            orders = tuple(dice.one_of(list(permutations((0, 30, 60)))) for _ in range(3))
            wishes = tuple((who, dice.one_of(list(permutations((0, 1, 2))))) for who in (0, 30, 60))
            several += self.look_over(orders, wishes, list(permutations(range(3)))) > 1
        self.assertGreater(several, 10)

    def test_six_thrones_and_sixty_one_numbers(self):
        dice = Dice(345)
        for _ in range(20):
            orders, wishes = some_sharing_case(dice, 6, 61)
            told = [by_thrones(orders, wishes, turn)[0] for turn in ((0, 1, 2, 3, 4, 5), (5, 0, 4, 1, 3, 2))]
            self.assertEqual(told[0], told[1])
            self.assertIs(at_rest(orders, wishes, told[0]), True)
            self.assertIs(at_rest(orders, wishes, by_folk(orders, wishes)), True)


if __name__ == "__main__":
    unittest.main()
