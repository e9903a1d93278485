"""Point [28]: holders; and [3] (k), of what they have written and heard."""

import unittest

from tests.makers import FAMILY, LAST, Dice, is_plain, ladder, some_house, some_rule, some_whole_book
from tests.test_scrolls import AWAITS, DIES, LEAVES, entries
from thronewalk.errors import NoEntry, TooMany, Unlike
from thronewalk.holder import Holder
from thronewalk.news import check_book
from thronewalk.reigns import reigns, sitter_at
from thronewalk.scrolls import check_scroll

RULE = ((0, "alike", 0, "lines"),)


class Looking(unittest.TestCase):
    def holds(self, holder, scroll):
        self.assertEqual(holder.scroll(), scroll)
        self.assertTrue(is_plain(holder.scroll()))
        check_scroll(FAMILY, holder.scroll())

    def refused(self, error, holder, ask):
        """What is refused changes nothing."""
        before = (holder.scroll(), holder.book())
        with self.assertRaises(error):
            ask()
        self.assertEqual((holder.scroll(), holder.book()), before)


class Writing(Looking):
    def test_none_at_first(self):
        holder = Holder(FAMILY, "ann")
        self.holds(holder, ((), ()))
        self.assertEqual(holder.book(), ())

    def test_numbers_from_0_on(self):
        holder = Holder(FAMILY, "ann")
        self.assertEqual([holder.write(news) for news in (LEAVES, DIES, AWAITS)], [0, 1, 2])
        self.assertIs(type(holder.write(("dies", 90, 2, -1))), int)
        self.holds(holder, (
            (("ann", 0, LEAVES), ("ann", 1, DIES), ("ann", 2, AWAITS), ("ann", 3, ("dies", 90, 2, -1))), ()))

    def test_a_news_that_stands_in_another_entry(self):
        holder = Holder(FAMILY, "ann")
        self.assertEqual([holder.write(DIES), holder.write(DIES)], [0, 1])
        self.holds(holder, ((("ann", 0, DIES), ("ann", 1, DIES)), ()))
        self.assertEqual(holder.book(), (DIES,))

    def test_above_all_those_of_its_writer(self):
        holder = Holder(FAMILY, "bob")
        holder.hear(((("ann", 9, DIES), ("bob", 4, DIES), ("bob", 7, LEAVES), ("bobby", 30, DIES)), ()))
        self.assertEqual(holder.write(AWAITS), 8)
        self.assertEqual(holder.write(AWAITS), 9)
        # It's the least above all, so those left out below stay free.
        self.assertEqual([entry[1] for entry in holder.scroll()[0] if entry[0] == "bob"], [4, 7, 8, 9])

    def test_struck_entries_count(self):
        holder = Holder(FAMILY, "ann")
        holder.write(DIES)
        holder.strike("ann", 0)
        self.assertEqual(holder.write(LEAVES), 1)
        self.holds(holder, ((("ann", 0, DIES), ("ann", 1, LEAVES)), (("ann", 0),)))

    def test_entries_stand_by_writer(self):
        holder = Holder(FAMILY, "bob")
        holder.write(DIES)
        holder.hear(((("ann", 5, LEAVES), ("cyd", 0, AWAITS)), ()))
        holder.write(LEAVES)
        self.holds(holder, (
            (("ann", 5, LEAVES), ("bob", 0, DIES), ("bob", 1, LEAVES), ("cyd", 0, AWAITS)), ()))

    def test_sixty(self):
        holder = Holder(FAMILY, "ann")
        self.assertEqual([holder.write(("dies", 100 + at, 0, -1)) for at in range(60)], list(range(60)))
        self.holds(holder, (entries(60), ()))
        self.refused(TooMany, holder, lambda: holder.write(DIES))
        holder.strike("ann", 0)
        self.refused(TooMany, holder, lambda: holder.write(DIES))

    def test_sixty_of_others(self):
        holder = Holder(FAMILY, "bob")
        holder.hear((entries(59), ()))
        self.assertEqual(holder.write(DIES), 0)
        self.refused(TooMany, holder, lambda: holder.write(DIES))

    def test_a_number_99(self):
        holder = Holder(FAMILY, "ann")
        holder.hear(((("ann", 98, DIES), ("bob", 99, DIES)), ()))
        self.assertEqual(holder.write(LEAVES), 99)
        self.refused(TooMany, holder, lambda: holder.write(AWAITS))
        # Of another writer it doesn't matter.
        other = Holder(FAMILY, "cyd")
        other.hear(holder.scroll())
        self.assertEqual(other.write(AWAITS), 0)


class Striking(Looking):
    def test_an_entry(self):
        holder = Holder(FAMILY, "ann")
        holder.write(DIES)
        holder.write(LEAVES)
        self.assertIsNone(holder.strike("ann", 1))
        self.holds(holder, ((("ann", 0, DIES), ("ann", 1, LEAVES)), (("ann", 1),)))
        self.assertEqual(holder.book(), (DIES,))
        holder.strike("ann", 0)
        self.holds(holder, ((("ann", 0, DIES), ("ann", 1, LEAVES)), (("ann", 0), ("ann", 1))))
        self.assertEqual(holder.book(), ())

    def test_strikes_rise(self):
        holder = Holder(FAMILY, "ann")
        holder.hear((entries(9) + entries(9, "bob"), ()))
        for number in (7, 3, 8, 0, 5, 3):
            holder.strike("bob", number)
            holder.strike("ann", number)
        struck = tuple((writer, number) for writer in ("ann", "bob") for number in (0, 3, 5, 7, 8))
        self.holds(holder, (entries(9) + entries(9, "bob"), struck))

    def test_once_more(self):
        holder = Holder(FAMILY, "ann")
        holder.write(DIES)
        holder.strike("ann", 0)
        self.assertIsNone(holder.strike("ann", 0))
        self.holds(holder, ((("ann", 0, DIES),), (("ann", 0),)))

    def test_an_entry_of_another_writer(self):
        holder = Holder(FAMILY, "ann")
        holder.hear(((("bob", 3, DIES),), ()))
        holder.strike("bob", 3)
        self.holds(holder, ((("bob", 3, DIES),), (("bob", 3),)))

    def test_no_entry(self):
        holder = Holder(FAMILY, "ann")
        self.refused(NoEntry, holder, lambda: holder.strike("ann", 0))
        holder.write(DIES)
        for writer, number in (("ann", 1), ("ann", -1), ("bob", 0), ("", 0), ("ann", 100), ("an", 0), ("anna", 0)):
            self.refused(NoEntry, holder, lambda: holder.strike(writer, number))

    def test_one_of_two_with_one_news(self):
        holder = Holder(FAMILY, "ann")
        holder.write(DIES)
        holder.write(DIES)
        holder.strike("ann", 0)
        self.assertEqual(holder.book(), (DIES,))
        holder.strike("ann", 1)
        self.assertEqual(holder.book(), ())


class Hearing(Looking):
    def test_joined(self):
        holder = Holder(FAMILY, "bob")
        holder.write(DIES)
        self.assertIsNone(holder.hear(((("ann", 0, LEAVES), ("bob", 0, DIES)), (("bob", 0),))))
        self.holds(holder, ((("ann", 0, LEAVES), ("bob", 0, DIES)), (("bob", 0),)))
        self.assertEqual(holder.book(), (LEAVES,))

    def test_its_own_again(self):
        holder = Holder(FAMILY, "bob")
        holder.write(DIES)
        earlier = holder.scroll()
        holder.strike("bob", 0)
        holder.hear(earlier)
        self.holds(holder, ((("bob", 0, DIES),), (("bob", 0),)))

    def test_refused(self):
        holder = Holder(FAMILY, "ann")
        for at in range(40):
            holder.write(("dies", 100 + at, 0, -1))
        holder.strike("ann", 5)
        unlike = (("ann", 3, DIES),)
        self.refused(Unlike, holder, lambda: holder.hear((unlike, ())))
        self.refused(Unlike, holder, lambda: holder.hear((unlike, (("ann", 3),))))
        self.refused(TooMany, holder, lambda: holder.hear((entries(21, "bob"), (("bob", 0),))))
        self.refused(Unlike, holder, lambda: holder.hear((unlike + entries(21, "bob"), ())))
        self.assertEqual(holder.write(DIES), 40)
        holder.hear((entries(19, "bob"), ()))
        self.assertEqual(len(holder.scroll()[0]), 60)

    def test_what_was_told_earlier_stays(self):
        holder = Holder(FAMILY, "ann")
        told = [(holder.scroll(), holder.book())]
        texts = [repr(told[0])]
        for ask in (
                lambda: holder.write(DIES), lambda: holder.write(LEAVES), lambda: holder.strike("ann", 0),
                lambda: holder.hear(((("bob", 0, AWAITS),), (("bob", 0),))), lambda: holder.write(AWAITS)):
            ask()
            told.append((holder.scroll(), holder.book()))
            texts.append(repr(told[-1]))
        self.assertEqual([repr(one) for one in told], texts)
        self.assertEqual(len(set(texts)), 6)

    def test_two_holders_apart(self):
        one, other = Holder(FAMILY, "ann"), Holder(FAMILY, "ann")
        one.write(DIES)
        self.assertEqual(other.scroll(), ((), ()))
        other.hear(one.scroll())
        other.write(LEAVES)
        other.strike("ann", 0)
        self.holds(one, ((("ann", 0, DIES),), ()))
        self.assertEqual(one.write(AWAITS), 1)
        self.assertEqual(other.book(), (LEAVES,))


class Asking(Looking):
    def test_by_its_book(self):
        holder = Holder(FAMILY, "ann")
        self.assertEqual(holder.sitter_at(RULE, 90), 0)
        self.assertEqual(holder.reigns(RULE, 90), ((0, 0),))
        holder.write(DIES)
        self.assertEqual([holder.sitter_at(RULE, day) for day in (79, 80)], [0, 2])
        self.assertEqual(holder.reigns(RULE, 90), ((0, 0), (80, 2)))
        holder.hear(((("bob", 0, LEAVES),), ()))
        self.assertEqual(holder.reigns(RULE, 90), ((0, 0), (80, 2), (81, 5)))
        holder.strike("ann", 0)
        self.assertEqual(holder.reigns(RULE, LAST), ((0, 0),))
        self.assertEqual(holder.sitter_at(RULE, 80), 0)

    def test_ahead_of_the_beginning(self):
        holder = Holder(FAMILY, "ann")
        self.assertEqual(holder.sitter_at(((2, "alike", 0, "age"),), 9), -1)
        self.assertEqual(holder.reigns(((2, "alike", 0, "age"),), 9), ())

    def test_as_the_functions_tell(self):
        dice = Dice(371)
        for _ in range(40):
            house = some_house(dice, 8, 30)
            holder = Holder(house, "ann")
            for news in some_whole_book(dice, house, 9, 30):
                holder.write(news)
                if dice.below(4) == 0:
                    holder.strike("ann", dice.below(len(holder.scroll()[0])))
            check_book(house, holder.book())
            rule = some_rule(dice, house)
            for day in (0, 10, 40):
                self.assertEqual(holder.reigns(rule, day), reigns(house, holder.book(), rule, day))
                self.assertEqual(holder.sitter_at(rule, day), sitter_at(house, holder.book(), rule, day))
                self.assertTrue(is_plain(holder.reigns(rule, day)))

    def test_sixty_and_sixty(self):
        house = ladder(60)
        holder = Holder(house, "ann")
        for who in range(60):
            holder.write(("dies", 100 + who, who, -1))
        pairs = tuple((100 + who, who + 1) for who in range(59))
        self.assertEqual(holder.reigns(RULE, LAST), ((0, 0),) + pairs + ((159, -1),))
        self.assertEqual(holder.sitter_at(RULE, 130), 31)


class Whole(unittest.TestCase):
    """[3] (k): the same heard, in whatever order and however often."""

    def scrolls(self, dice, house):
        """What some holders have, who hear now and then of one another."""
        holders = [Holder(house, writer) for writer in ("ann", "bob", "cyd")]
        told = []
        for _ in range(25):
            holder = dice.one_of(holders)
            news = some_whole_book(dice, house, 3, 30)
            what = dice.below(4)
            if what == 0 and told:
                holder.hear(dice.one_of(told))
            elif what == 1 and holder.scroll()[0]:
                holder.strike(*dice.one_of(holder.scroll()[0])[:2])
            elif news and len(holder.scroll()[0]) < 12:
                holder.write(dice.one_of(news))
            told.append(holder.scroll())
        return told

    def test_in_whatever_order_and_however_often(self):
        dice = Dice(372)
        struck = 0
        for _ in range(60):
            house = some_house(dice, 6, 20)
            told = self.scrolls(dice, house)
            holders = [Holder(house, writer) for writer in ("dot", "eve", "ann", "bob")]
            for holder in holders:
                waiting = list(told)
                while waiting:
                    holder.hear(dice.one_of(told))
                    holder.hear(waiting.pop(dice.below(len(waiting))))
            for holder in holders:
                self.assertEqual(holder.scroll(), holders[0].scroll())
                self.assertEqual(holder.book(), holders[0].book())
            check_scroll(house, holders[0].scroll())
            check_book(house, holders[0].book())
            # What is struck leaves nothing: as if it had never been written.
            written, strikes = holders[0].scroll()
            left = Holder(house, "eve")
            left.hear((tuple(entry for entry in written if entry[:2] not in strikes), ()))
            self.assertEqual(left.book(), holders[0].book())
            struck += len(strikes)
        self.assertGreater(struck, 50)

    def test_written_by_the_one_and_heard_by_the_other(self):
        dice = Dice(373)
        for _ in range(40):
            house = some_house(dice, 6, 20)
            one, other = Holder(house, "ann"), Holder(house, "bob")
            for _ in range(12):
                holder = dice.one_of((one, other))
                for news in some_whole_book(dice, house, 2, 20):
                    holder.write(news)
                if holder.scroll()[0] and dice.below(3) == 0:
                    holder.strike(*dice.one_of(holder.scroll()[0])[:2])
                if dice.below(4) == 0:
                    other.hear(one.scroll())
            one.hear(other.scroll())
            other.hear(one.scroll())
            self.assertEqual(one.scroll(), other.scroll())
            self.assertEqual(one.book(), other.book())
            rule = some_rule(dice, house)
            self.assertEqual(one.reigns(rule, 60), other.reigns(rule, 60))


if __name__ == "__main__":
    unittest.main()
