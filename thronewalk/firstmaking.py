"""Making the paper of the first of an order."""

from thronewalk.orders import row_order
from thronewalk.placing import place_of
from thronewalk.reach import reach_of


def first_paper(house, book, rule, day, last):
    return first_and_paper(house, book, rule, day, last, -1)[1]


def first_and_paper(house, book, rule, day, last, aside):
    """A tuple of the first of the order but aside (-1 for nobody), -1 if there is none, and a paper of it."""
    parts = ()
    for row in rule:
        order = [who for who in row_order(house, book, row, day, last) if who != aside]
        if order:
            return (order[0], parts + (first_part(house, book, row, day, order[0]),))
        parts += (("nobody", reach_of(house, book, row, day)),)
    return (-1, parts)


def first_part(house, book, row, day, who):
    if row[3] == "lines":
        line, ahead = place_of(house, book, row, day, who)
        return ("lines", line, ahead)
    return (row[3], reach_of(house, book, row, day))
