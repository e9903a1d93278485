"""The orders of rows and of rules."""

from thronewalk.degrees import degrees
from thronewalk.reach import members_of, reach_of, standing
from thronewalk.walks import walk


def order_of(house, book, rule, day, last):
    order = {}
    for row in rule:
        for who in row_order(house, book, row, day, last):
            # Who came by a row ahead keeps that first place.
            order[who] = True
    return tuple(order)


def first_of(house, book, rule, day, last):
    for row in rule:
        order = row_order(house, book, row, day, last)
        if order:
            return order[0]
    return -1


def row_order(house, book, row, day, last):
    if row[3] == "lines":
        return standing(house, book, row, day, walk(house, book, row, day))
    order = standing(house, book, row, day, members_of(reach_of(house, book, row, day)))
    if row[3] == "near":
        return by_nearness(order, degrees(house, book, row, day, last))
    return order


def by_nearness(folk, told):
    """Some folk by their told degrees, -1 behind all others, and of like ones by their numbers."""
    return sorted(folk, key=lambda who: (told[who] == -1, told[who], who))
