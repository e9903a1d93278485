"""Making the paper of a place, and telling where two lines part."""

from thronewalk.beginnings import folk_at, shared_many
from thronewalk.errors import NoLine
from thronewalk.walks import least_line, least_lines, walk


def place_of(house, book, row, day, who):
    lines = least_lines(house, book, row, day)
    if who not in lines:
        raise NoLine()
    order = list(lines)
    return (lines[who], tuple(sorted(order[:order.index(who)])))


def parting(house, book, row, day, one, other):
    first = least_line(house, book, row, day, one)
    second = least_line(house, book, row, day, other)
    shared = shared_many(first, second)
    return (first[shared - 1], folk_at(first, shared), folk_at(second, shared))


def comes_ahead(house, book, row, day, one, other):
    order = walk(house, book, row, day)
    if one not in order or other not in order:
        raise NoLine()
    return order.index(one) < order.index(other)
