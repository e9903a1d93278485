"""Point [20]: who sits behind each news of a day."""

import unittest
from itertools import permutations

from tests import slow_thrones
from tests.by_hand import BOOK, HOUSE, RULE
from tests.makers import FAMILY, is_plain, some_thrones
from thronewalk.moments import moments
from thronewalk.news import check_book
from thronewalk.reigns import sitter_at

LINES = ((0, "alike", 0, "lines"),)
NEAR = ((0, "alike", 0, "near"),)


def news_of(book, day):
    return tuple(news for news in book if news[1] == day)


class Moments(unittest.TestCase):
    def told(self, *news, rule=LINES, before=(), behind=(), house=FAMILY):
        book = tuple(sorted(before + news + behind))
        check_book(house, book)
        day = news[0][1]
        self.assertEqual(sorted(news), sorted(news_of(book, day)))
        told = moments(house, book, rule, day, news)
        self.assertTrue(is_plain(told))
        return told

    def test_a_day_without_news(self):
        for day in (0, 5, 10, 80, 99999):
            self.assertEqual(moments(FAMILY, (("dies", 20, 0, -1),), LINES, day, ()), ())

    def test_one_news(self):
        for word in ("dies", "leaves", "cuts"):
            self.assertEqual(self.told((word, 80, 0, -1)), (2,))
            self.assertEqual(self.told((word, 80, 2, -1)), (0,))
        self.assertEqual(self.told(("returns", 80, 0, -1)), (0,))

    def test_news_of_several_in_each_order(self):
        one, other = ("dies", 80, 0, -1), ("dies", 80, 2, -1)
        self.assertEqual(self.told(one, other), (2, 5))
        self.assertEqual(self.told(other, one), (0, 5))
        third = ("leaves", 80, 5, -1)
        self.assertEqual(self.told(one, other, third), (2, 5, 7))
        self.assertEqual(self.told(one, third, other), (2, 2, 7))
        self.assertEqual(self.told(third, other, one), (0, 0, 7))

    def test_several_news_of_one_folk(self):
        leaves, returns = ("leaves", 80, 0, -1), ("returns", 80, 0, -1)
        self.assertEqual(self.told(leaves, returns), (2, 2))
        self.assertEqual(self.told(returns, leaves), (0, 0))
        cuts = ("cuts", 80, 0, -1)
        self.assertEqual(self.told(leaves, cuts, returns), (2, 2, 2))
        self.assertEqual(self.told(leaves, ("dies", 80, 0, -1), cuts), (2, 2, 2))

    def test_out_and_back_while_nobody_else_stands(self):
        house = FAMILY[:2]
        leaves, returns = ("leaves", 80, 0, -1), ("returns", 80, 0, -1)
        self.assertEqual(self.told(leaves, returns, house=house), (-1, 0))
        self.assertEqual(self.told(returns, leaves, house=house), (0, 0))
        dies = ("dies", 80, 0, -1)
        for news in permutations((leaves, returns, dies)):
            self.assertEqual(self.told(*news, house=house)[-1], -1)
        self.assertEqual(self.told(leaves, returns, dies, house=house), (-1, 0, -1))

    def test_back_from_an_earlier_day(self):
        before = (("leaves", 5, 0, -1),)
        self.assertEqual(self.told(("returns", 8, 0, -1), before=before), (0,))
        self.assertEqual(self.told(("returns", 8, 0, -1), ("dies", 8, 0, -1), before=before), (0, -1))
        self.assertEqual(self.told(("dies", 8, 0, -1), ("returns", 8, 0, -1), before=before), (-1, -1))
        self.assertEqual(self.told(("returns", 12, 0, -1), before=before), (2,))

    def test_the_beginning(self):
        self.assertEqual(self.told(("dies", 0, 0, -1)), (-1,))
        self.assertEqual(self.told(("leaves", 0, 1, -1)), (0,))
        self.assertEqual(self.told(("leaves", 0, 1, -1), ("dies", 0, 0, -1)), (0, -1))
        self.assertEqual(self.told(("dies", 0, 0, -1), ("leaves", 0, 1, -1)), (-1, -1))
        rule = ((5, "alike", 0, "lines"), (2, "alike", 0, "lines"))
        self.assertEqual(self.told(("leaves", 40, 5, -1), ("dies", 40, 2, -1), rule=rule), (2, -1))
        self.assertEqual(self.told(("dies", 40, 2, -1), ("leaves", 40, 5, -1), rule=rule), (5, -1))
        self.assertEqual(moments(FAMILY, (), rule, 40, ()), ())

    def test_folk_who_are_born_on_the_day(self):
        self.assertEqual(self.told(("dies", 10, 0, -1)), (2,))
        self.assertEqual(self.told(("dies", 10, 0, -1), ("dies", 10, 2, -1)), (2, -1))
        self.assertEqual(self.told(("leaves", 10, 1, -1), before=(("dies", 5, 0, -1),)), (2,))

    def test_nothing_behind_the_day_counts(self):
        behind = (("dies", 81, 2, -1), ("returns", 81, 0, -1))
        self.assertEqual(self.told(("dies", 80, 0, -1), behind=behind), (2,))
        self.assertEqual(self.told(("leaves", 80, 0, -1), behind=behind), (2,))

    def test_an_awaits_among_the_news(self):
        awaits, dies = ("awaits", 70, 0, 1), ("dies", 70, 3, -1)
        before = (("dies", 60, 1, -1),)
        self.assertEqual(self.told(awaits, dies, rule=RULE, before=before, house=HOUSE), (3, -1))
        self.assertEqual(self.told(dies, awaits, rule=RULE, before=before, house=HOUSE), (2, 2))
        mother = ("dies", 70, 0, -1)
        self.assertEqual(self.told(awaits, dies, mother, rule=RULE, before=before, house=HOUSE), (3, -1, 2))
        self.assertEqual(self.told(mother, awaits, dies, rule=RULE, before=before, house=HOUSE), (3, 3, 2))

    def test_an_awaits_of_an_earlier_day(self):
        self.assertEqual(moments(HOUSE, BOOK, RULE, 70, (BOOK[2],)), (-1,))
        self.assertEqual(moments(HOUSE, BOOK, RULE, 60, (BOOK[1],)), (3,))
        self.assertEqual(moments(HOUSE, BOOK, RULE, 50, (BOOK[0],)), (1,))
        for day, sits in ((349, -1), (350, 2), (351, 2)):
            news = ("leaves", day, 0, -1)
            self.assertEqual(moments(HOUSE, BOOK + (news,), RULE, day, (news,)), (sits,))

    def test_last_goes_on(self):
        # By nearness, 3 is next to 1 and 4 to 2: so it matters who sat for a moment.
        house = ((0, -1, -1, 1, 1), (5, 0, -1, 1, 1), (6, 0, -1, 1, 1), (9, 1, -1, 1, 1), (9, 2, -1, 1, 1))
        zero, one, two = ("dies", 20, 0, -1), ("dies", 20, 1, -1), ("dies", 20, 2, -1)
        self.assertEqual(self.told(zero, one, two, rule=NEAR, house=house), (1, 3, 3))
        self.assertEqual(self.told(one, zero, two, rule=NEAR, house=house), (0, 2, 4))
        self.assertEqual(self.told(one, two, zero, rule=NEAR, house=house), (0, 0, 3))
        # While nobody sits, whoever sat last is last still.
        four, three = ("leaves", 20, 4, -1), ("leaves", 20, 3, -1)
        back = ("returns", 20, 4, -1), ("returns", 20, 3, -1)
        news = (zero, one, two, four, three) + back
        self.assertEqual(self.told(*news, rule=NEAR, house=house), (1, 3, 3, 3, -1, 4, 4))

    def test_last_from_the_day_ahead(self):
        house = ((0, -1, -1, 1, 1), (5, 0, -1, 1, 1), (6, 0, -1, 1, 1), (9, 1, -1, 1, 1), (9, 2, -1, 1, 1))
        before = (("dies", 15, 0, -1), ("dies", 14, 1, -1))
        self.assertEqual(self.told(("dies", 20, 2, -1), rule=NEAR, before=before, house=house), (4,))

    def test_two_and_three_rows(self):
        rule = ((3, "alike", 0, "lines"), (2, "only", 0, "near"), (2, "alike", 0, "age"))
        news = tuple(("dies", 75, who, -1) for who in (3, 6, 7, 8))
        self.assertEqual(self.told(*news, rule=rule), (6, 7, 8, 2))

    def test_sixty_news(self):
        house = FAMILY + tuple((80, 0, -1, 1, 1) for _ in range(50))
        news = tuple(("leaves", 90, who, -1) for who in range(60))
        told = self.told(*news, house=house)
        self.assertEqual(told[-1], -1)
        self.assertEqual(told[:10], (2, 2, 5, 5, 5, 7, 7, 8, 9, 10))

    def test_as_the_words_say(self):
        several = 0
        for scale, many in ((8, 200), (450, 30)):
            for house, book, rule, _ in some_thrones(131 + scale, many, 7, scale, 16):
                begins = house[rule[0][0]][0]
                for day in sorted({news[1] for news in book if news[1] >= begins}):
                    news = news_of(book, day)
                    for turn in list(permutations(news))[:6]:
                        told = moments(house, book, rule, day, turn)
                        self.assertEqual(told, slow_thrones.moments(house, book, rule, day, turn))
                        several += len(set(told)) > 1
        self.assertGreater(several, 40)


class LastOneToSit(unittest.TestCase):
    """[3] (f): where all news are that somebody dies or leaves, and no row goes by nearness."""

    def look_at(self, house, book, rule, day):
        news = news_of(book, day)
        if not news or any(word not in ("dies", "leaves") for word, *rest in news):
            return 0
        for turn in list(permutations(news))[:24]:
            self.assertEqual(moments(house, book, rule, day, turn)[-1], sitter_at(house, book, rule, day))
        return len(news) > 1

    def test_in_whatever_order(self):
        several = 0
        for house, book, rule, _ in some_thrones(141, 400, 8, 8, 16):
            rule = tuple(row[:3] + ("age" if row[3] == "near" else row[3],) for row in rule)
            begins = house[rule[0][0]][0]
            for day in range(begins, begins + 20):
                several += self.look_at(house, book, rule, day)
        self.assertGreater(several, 50)

    def test_all_of_the_family_on_one_day(self):
        for word in ("dies", "leaves"):
            for folk in ((0, 2, 5, 7), (0, 3, 6, 8), (0, 2, 3, 4)):
                book = tuple(sorted((word, 80, who, -1) for who in folk))
                for rule in (LINES, ((0, "first", 0, "lines"),), ((0, "only", 1, "age"), (0, "first", 0, "age"))):
                    self.look_at(FAMILY, book, rule, 80)

    def test_with_children_that_are_awaited(self):
        book = (("awaits", 50, 0, 1), ("dies", 70, 0, -1), ("dies", 70, 1, -1), ("dies", 70, 3, -1))
        self.look_at(HOUSE, book, RULE, 70)
        self.assertEqual(sitter_at(HOUSE, book, RULE, 70), 2)
        self.look_at(HOUSE, book[:1] + book[2:], RULE, 70)
        self.assertEqual(sitter_at(HOUSE, book[:1] + book[2:], RULE, 70), -1)


if __name__ == "__main__":
    unittest.main()
