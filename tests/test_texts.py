"""Point [30]: the texts of houses, books and rules."""

import unittest

from tests.makers import FAMILY, LAST, MEN, WAYS
from thronewalk.texts import book_text, house_text, rule_text


class Texts(unittest.TestCase):
    def is_text(self, told, right):
        self.assertEqual(told, right)
        self.assertIs(type(told), str)

    def test_house(self):
        self.is_text(house_text(((0, -1, -1, 1, 1),)), "0 - - man wed\n")
        self.is_text(house_text(FAMILY), (
            "0 - - man wed\n0 - - woman wed\n10 0 1 woman wed\n20 0 1 man wed\n20 0 - man unwed\n40 - 2 man wed\n"
            "40 3 - woman wed\n60 5 6 man wed\n60 3 2 man wed\n70 4 - woman wed\n"))
        self.is_text(house_text(((LAST, -1, -1, 0, 0),)), "99999 - - woman unwed\n")

    def test_book(self):
        self.is_text(book_text(()), "")
        self.is_text(book_text((("dies", 0, 0, -1),)), "dies 0 0\n")
        book = (
            ("awaits", 82, 2, -1), ("awaits", 82, 2, 3), ("cuts", 5, 0, -1), ("dies", LAST, 9, -1),
            ("leaves", 10, 2, -1), ("returns", 11, 2, -1))
        self.is_text(book_text(book), (
            "awaits 82 2 -\nawaits 82 2 3\ncuts 5 0\ndies 99999 9\nleaves 10 2\nreturns 11 2\n"))

    def test_rule(self):
        self.is_text(rule_text(((0, "first", 1, "lines"),)), "0 first wed lines\n")
        rule = ((59, "alike", 0, "age"), (3, "only", 1, "near"), (0, "first", 0, "lines"))
        self.is_text(rule_text(rule), "59 alike all age\n3 only wed near\n0 first all lines\n")

    def test_each_word_of_a_rule(self):
        for men in MEN:
            for way in WAYS:
                self.is_text(rule_text(((7, men, 0, way),)), "7 " + men + " all " + way + "\n")


if __name__ == "__main__":
    unittest.main()
