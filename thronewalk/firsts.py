"""Looking over the paper of a first one, without seeking anything."""

from thronewalk.degrees import degrees
from thronewalk.orders import by_nearness
from thronewalk.places import right_place
from thronewalk.plain import is_tuple_of
from thronewalk.reach import members_of, right_reach, standing


def right_first(house, book, rule, day, last, who, thing):
    return right_without(house, book, rule, day, last, who, -1, thing)


def right_without(house, book, rule, day, last, who, aside, thing):
    """Whether it is a first paper, when aside (-1 for nobody) is left out of those who stand."""
    if not isinstance(thing, tuple) or not 1 <= len(thing) <= len(rule):
        return False
    if who == -1 and len(thing) < len(rule):
        return False
    many = len(thing) if who == -1 else len(thing) - 1
    if not all(tells_nobody(house, book, rule[at], day, aside, thing[at]) for at in range(many)):
        return False
    return who == -1 or tells_first(house, book, rule[many], day, last, who, aside, thing[many])


def tells_nobody(house, book, row, day, aside, part):
    if not has_reach(house, book, row, day, "nobody", part):
        return False
    return len(standing_beside(house, book, row, day, aside, members_of(part[1]))) == 0


def tells_first(house, book, row, day, last, who, aside, part):
    if row[3] == "lines":
        return tells_first_line(house, book, row, day, who, aside, part)
    if not has_reach(house, book, row, day, row[3], part):
        return False
    others = standing_beside(house, book, row, day, aside, members_of(part[1]))
    if row[3] == "near":
        others = by_nearness(others, degrees(house, book, row, day, last))
    return others[:1] == [who]


def tells_first_line(house, book, row, day, who, aside, part):
    if not is_tuple_of(part, 3) or part[0] != "lines" or not right_place(house, book, row, day, who, part[1:]):
        return False
    return standing_beside(house, book, row, day, aside, part[2] + (who,)) == [who]


def has_reach(house, book, row, day, word, part):
    return is_tuple_of(part, 2) and part[0] == word and right_reach(house, book, row, day, part[1])


def standing_beside(house, book, row, day, aside, reached):
    return [who for who in standing(house, book, row, day, reached) if who != aside]
