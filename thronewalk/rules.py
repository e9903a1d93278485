"""Rows, tuples (founder, men, wed, way), and rules of them."""

from thronewalk.errors import NoRule
from thronewalk.folk import day_of, is_folk_of
from thronewalk.plain import is_number, is_tuple_of

MOST_ROWS = 3
MEN = ("alike", "first", "only")
WAYS = ("lines", "age", "near")


def check_rule(house, thing):
    if not is_rule(house, thing):
        raise NoRule()


def is_rule(house, thing):
    if not isinstance(thing, tuple) or not 1 <= len(thing) <= MOST_ROWS:
        return False
    if not all(is_row(house, row) for row in thing):
        return False
    begins = day_of(house, thing[0][0])
    return all(day_of(house, row[0]) <= begins for row in thing)


def is_row(house, thing):
    if not is_tuple_of(thing, 4):
        return False
    founder, men, wed, way = thing
    if not is_folk_of(house, founder) or not is_number(wed):
        return False
    return men in MEN and wed in (0, 1) and way in WAYS


def founder_is_born(house, row, day):
    return day_of(house, row[0]) <= day
