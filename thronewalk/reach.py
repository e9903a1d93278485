"""Who is reached by a row, and who stands by it."""

from thronewalk.folk import are_folk_of, is_man
from thronewalk.news import is_dead, is_out
from thronewalk.plain import is_number, is_rising, is_tuple_of
from thronewalk.rules import founder_is_born
from thronewalk.steps import lines_many, steps_of


def right_reach(house, book, row, day, thing):
    if not are_pairs(thing):
        return False
    if not founder_is_born(house, row, day):
        return thing == ()
    members = tuple(pair[0] for pair in thing)
    # Pairs that rise, with no first part twice, are those whose first parts rise.
    if not are_folk_of(house, members) or not is_rising(members) or row[0] not in members:
        return False
    if not all(pair_holds(house, book, row, day, members, pair) for pair in thing):
        return False
    return all(step in members for who in members for step in steps_of(house, book, row, day, who))


def are_pairs(thing):
    return isinstance(thing, tuple) and all(is_pair(part) for part in thing)


def is_pair(thing):
    return is_tuple_of(thing, 2) and is_number(thing[0]) and is_number(thing[1])


def pair_holds(house, book, row, day, members, pair):
    who, parent = pair
    if who == row[0]:
        return parent == -1
    return parent in members and who in steps_of(house, book, row, day, parent)


def reach_of(house, book, row, day):
    if not founder_is_born(house, row, day):
        return ()
    parents = {row[0]: -1}
    # A step goes to a greater number, so all who lead to one are gone through ahead of it.
    for who in range(row[0], len(house)):
        if who in parents:
            for step in steps_of(house, book, row, day, who):
                parents[step] = who
    return tuple((who, parents[who]) for who in sorted(parents))


def stands(house, book, row, day, who):
    return lines_many(house, book, row, day, who) > 0 and may_stand(house, book, row, day, who)


def may_stand(house, book, row, day, who):
    if row[1] == "only" and not is_man(house, who):
        return False
    return not is_dead(book, day, who) and not is_out(book, day, who)
