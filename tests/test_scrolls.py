"""Point [27]: scrolls, joining two of them, and their books."""

import unittest

from tests import slow_scrolls
from tests.makers import FAMILY, LAST, ODD_THINGS, Dice, as_truths, changed, is_plain, listed, some_whole_book
from thronewalk.errors import NoScroll, TooMany, Unlike
from thronewalk.news import check_book
from thronewalk.scrolls import book_of, check_scroll, joined

DIES = ("dies", 80, 0, -1)
LEAVES = ("leaves", 81, 2, -1)
AWAITS = ("awaits", 82, 2, 3)
EMPTY = ((), ())
SCROLL = (
    (("ann", 0, DIES), ("ann", 2, LEAVES), ("bob", 1, AWAITS), ("bob", 7, DIES)),
    (("ann", 2), ("bob", 7)),
)


def entries(many, writer="ann", first=0):
    """So many entries of one writer."""
    return tuple((writer, first + at, ("dies", 100 + at, 0, -1)) for at in range(many))


class Checking(unittest.TestCase):
    def is_right(self, thing, house=FAMILY):
        try:
            self.assertIsNone(check_scroll(house, thing))
        except NoScroll:
            return False
        return True

    def one(self, writer="ann", number=0, news=DIES):
        return self.is_right((((writer, number, news),), ()))


class Scrolls(Checking):
    def test_these_are_right(self):
        for scroll in (EMPTY, SCROLL, (SCROLL[0], ()), (SCROLL[0], tuple(entry[:2] for entry in SCROLL[0]))):
            self.assertTrue(self.is_right(scroll))

    def test_writers(self):
        for writer in ("a", "z", "abcdefgh", "zzzzzzzz"):
            self.assertTrue(self.one(writer))
        for writer in ("", "abcdefghi", "A", "Ann", "a b", " a", "a ", "a1", "1", "a-", "a\n", "`", "{", None, 1, ("a",)):
            self.assertFalse(self.one(writer))

    def test_numbers(self):
        for number in (0, 1, 99):
            self.assertTrue(self.one(number=number))
        for number in (100, -1, True, False, None, "0", (0,), 10 ** 59):
            self.assertFalse(self.one(number=number))

    def test_news_of_the_house(self):
        for news in (DIES, LEAVES, AWAITS, ("dies", 0, 0, -1), ("dies", LAST, 9, -1), ("awaits", 11, 2, -1)):
            self.assertTrue(self.one(news=news))
        for news in (
                ("dies", 80, 10, -1), ("dies", 69, 9, -1), ("dies", LAST + 1, 0, -1), ("dies", 80, 0, 0),
                ("awaits", 80, 0, -1), ("awaits", 80, 2, 2), ("weds", 80, 0, -1), ("dies", 80, 0), (), None, "dies",
                list(DIES), ("dies", True, 0, -1), (DIES,)):
            self.assertFalse(self.one(news=news))
        self.assertFalse(self.is_right(SCROLL, FAMILY[:1]))

    def test_entries_that_do_not_rise(self):
        a0, a1, b0 = ("a", 0, DIES), ("a", 1, DIES), ("b", 0, DIES)
        for right in ((a0,), (a0, a1), (a0, b0), (a1, b0), (a0, a1, b0), (("ab", 5, DIES), b0)):
            self.assertTrue(self.is_right((right, ())))
        for wrong in ((a1, a0), (b0, a0), (b0, a1), (a0, b0, a1), (b0, ("ab", 5, DIES))):
            self.assertFalse(self.is_right((wrong, ())))

    def test_an_entry_twice(self):
        a0 = ("a", 0, DIES)
        self.assertFalse(self.is_right(((a0, a0), ())))
        # By writer and number, whatever the news.
        self.assertFalse(self.is_right(((a0, ("a", 0, LEAVES)), ())))
        self.assertTrue(self.is_right(((a0, ("a", 1, DIES)), ())))

    def test_strikes(self):
        for strikes in ((), (("ann", 0),), (("ann", 0), ("ann", 2)), (("ann", 2), ("bob", 1)), (("bob", 7),)):
            self.assertTrue(self.is_right((SCROLL[0], strikes)))
        for strikes in (
                (("ann", 1),), (("bob", 0),), (("cyd", 0),), (("ann", 0), ("ann", 0)), (("ann", 2), ("ann", 0)),
                (("bob", 1), ("ann", 0)), ("ann", 0), (("ann", 0, DIES),), (("ann", False),), (("bob", True),),
                (["ann", 0],), [("ann", 0)], (("ann",),), ((),), None, 0, "", (("ann", -1),), ((0, "ann"),)):
            self.assertFalse(self.is_right((SCROLL[0], strikes)))
        self.assertFalse(self.is_right(((), (("ann", 0),))))

    def test_sixty(self):
        self.assertTrue(self.is_right((entries(60), ())))
        self.assertTrue(self.is_right((entries(60), tuple(entry[:2] for entry in entries(60)))))
        self.assertTrue(self.is_right((entries(30) + entries(30, "bob"), ())))
        self.assertFalse(self.is_right((entries(61), ())))
        self.assertFalse(self.is_right((entries(30) + entries(31, "bob"), ())))
        # One news in many entries is many.
        self.assertFalse(self.is_right((tuple(("ann", at, DIES) for at in range(61)), ())))

    def test_anything_else(self):
        for thing in ODD_THINGS:
            self.assertEqual(self.is_right(thing), thing == EMPTY)
            self.assertEqual(self.is_right((thing, ())), thing == () and type(thing) is tuple)
            self.assertFalse(self.is_right((SCROLL[0], (thing,))))
            self.assertFalse(self.is_right((SCROLL[0] + (thing,), ())))
            self.assertFalse(self.is_right(SCROLL + (thing,)))
        for thing in (listed(SCROLL), as_truths(SCROLL), list(SCROLL), SCROLL[0], SCROLL[1], (SCROLL,), SCROLL[::-1]):
            self.assertFalse(self.is_right(thing))

    def test_bent_at_one_place(self):
        for thing in changed(SCROLL):
            self.assertEqual(self.is_right(thing), slow_scrolls.is_scroll(FAMILY, thing))

    def test_what_is_handed_in_stays(self):
        thing = [[["ann", 0, list(DIES)]], []]
        self.assertFalse(self.is_right(thing))
        self.assertEqual(thing, [[["ann", 0, list(DIES)]], []])


class Joined(Checking):
    def tells(self, one, other):
        told = joined(one, other)
        self.assertTrue(is_plain(told))
        self.assertTrue(self.is_right(told))
        return told

    def test_all_entries_and_all_strikes(self):
        one = (SCROLL[0][:3], (("ann", 2),))
        other = ((SCROLL[0][0], SCROLL[0][3]), (("ann", 0), ("bob", 7)))
        told = (SCROLL[0], (("ann", 0), ("ann", 2), ("bob", 7)))
        self.assertEqual(self.tells(one, other), told)
        self.assertEqual(self.tells(other, one), told)

    def test_with_itself_and_with_none(self):
        for scroll in (EMPTY, SCROLL, (entries(60), ())):
            self.assertEqual(self.tells(scroll, scroll), scroll)
            self.assertEqual(self.tells(scroll, EMPTY), scroll)
            self.assertEqual(self.tells(EMPTY, scroll), scroll)

    def test_struck_in_one_alone(self):
        self.assertEqual(self.tells((SCROLL[0], ()), SCROLL), SCROLL)
        self.assertEqual(self.tells(SCROLL, (SCROLL[0], ())), SCROLL)

    def test_unlike_news(self):
        for news in (LEAVES, ("dies", 81, 0, -1), AWAITS):
            other = ((("ann", 0, news),), ())
            for pair in ((SCROLL, other), (other, SCROLL)):
                with self.assertRaises(Unlike):
                    joined(*pair)
        # Struck or not.
        with self.assertRaises(Unlike):
            joined(SCROLL, ((("ann", 2, DIES),), (("ann", 2),)))

    def test_more_than_sixty(self):
        self.assertEqual(len(self.tells((entries(30), ()), (entries(30, "bob"), ()))[0]), 60)
        self.assertEqual(len(self.tells((entries(60), ()), (entries(30), ()))[0]), 60)
        for one, other in ((entries(30), entries(31, "bob")), (entries(60), entries(1, "bob"))):
            for pair in (((one, ()), (other, ())), ((other, ()), (one, ()))):
                with self.assertRaises(TooMany):
                    joined(*pair)

    def test_strikes_do_not_make_room(self):
        with self.assertRaises(TooMany):
            joined((entries(60), (("ann", 0),)), (entries(1, "bob"), (("bob", 0),)))

    def test_unlike_is_first(self):
        other = ((("ann", 59, DIES),) + entries(40, "bob"), ())
        for pair in (((entries(60), ()), other), (other, (entries(60), ()))):
            with self.assertRaises(Unlike):
                joined(*pair)

    def test_refused_and_nothing_changed(self):
        one, other = (entries(60), ()), (entries(1, "bob"), ())
        before = repr((one, other))
        with self.assertRaises(TooMany):
            joined(one, other)
        self.assertEqual(repr((one, other)), before)


class BookOf(Checking):
    def test_by_hand(self):
        self.assertEqual(book_of(EMPTY), ())
        self.assertEqual(book_of(SCROLL), (AWAITS, DIES))
        self.assertEqual(book_of((SCROLL[0], ())), (AWAITS, DIES, LEAVES))

    def test_one_news_in_two_entries(self):
        both = (("ann", 0, DIES), ("bob", 0, DIES))
        self.assertEqual(book_of((both, ())), (DIES,))
        self.assertEqual(book_of((both, (("ann", 0),))), (DIES,))
        self.assertEqual(book_of((both, (("bob", 0),))), (DIES,))
        self.assertEqual(book_of((both, (("ann", 0), ("bob", 0)))), ())

    def test_rising_by_the_news(self):
        scroll = ((("a", 0, LEAVES), ("a", 1, DIES), ("b", 0, AWAITS)), ())
        self.assertEqual(book_of(scroll), (AWAITS, DIES, LEAVES))

    def test_books_of_the_house(self):
        dice = Dice(361)
        for _ in range(100):
            news = some_whole_book(dice, FAMILY, 8, 30)
            names = sorted({(dice.one_of(("a", "b", "zz")), dice.below(100)) for _ in range(12)})
            written = tuple((*name, dice.one_of(news)) for name in names) if news else ()
            scroll = (written, tuple(entry[:2] for entry in written if dice.below(3) == 0))
            self.assertTrue(self.is_right(scroll))
            book = book_of(scroll)
            self.assertIsNone(check_book(FAMILY, book))
            self.assertEqual(book, slow_scrolls.book_of(scroll))
            self.assertTrue(is_plain(book))

    def test_sixty(self):
        self.assertEqual(len(book_of((entries(60), ()))), 60)
        self.assertEqual(book_of((entries(60), tuple(entry[:2] for entry in entries(60)))), ())


if __name__ == "__main__":
    unittest.main()
