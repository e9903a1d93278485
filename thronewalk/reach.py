"""Who is reached by a row, and who stands by it."""

from thronewalk.folk import are_folk_of, is_man
from thronewalk.news import dead_by, out_by
from thronewalk.plain import is_number, is_rising, is_tuple_of
from thronewalk.rules import founder_is_born
from thronewalk.steps import all_steps, lines_many


def right_reach(house, book, row, day, thing):
    if not are_pairs(thing):
        return False
    if not founder_is_born(house, row, day):
        return thing == ()
    members = members_of(thing)
    # Pairs that rise, with no first part twice, are those whose first parts rise.
    if not are_folk_of(house, members) or not is_rising(members) or row[0] not in members:
        return False
    steps = all_steps(house, book, row, day)
    if not all(pair_holds(row, steps, members, pair) for pair in thing):
        return False
    return all(step in members for who in members for step in steps[who])


def members_of(reach):
    return tuple(pair[0] for pair in reach)


def are_pairs(thing):
    return isinstance(thing, tuple) and all(is_pair(part) for part in thing)


def is_pair(thing):
    return is_tuple_of(thing, 2) and is_number(thing[0]) and is_number(thing[1])


def pair_holds(row, steps, members, pair):
    who, parent = pair
    if who == row[0]:
        return parent == -1
    return parent in members and who in steps[parent]


def reach_of(house, book, row, day):
    parents = parents_by(house, row, day, all_steps(house, book, row, day))
    return tuple((who, parents[who]) for who in sorted(parents))


def parents_by(house, row, day, steps):
    """Of each one who is reached, one of whom it is a step; of the founder, -1."""
    if not founder_is_born(house, row, day):
        return {}
    parents = {row[0]: -1}
    # A step goes to a greater number, so all who lead to one are gone through ahead of it.
    for who in range(row[0], len(house)):
        if who in parents:
            for step in steps[who]:
                parents[step] = who
    return parents


def stands(house, book, row, day, who):
    return lines_many(house, book, row, day, who) > 0 and standing(house, book, row, day, (who,)) == [who]


def standing(house, book, row, day, reached):
    """Those of some folk, all of them reached, who stand by the row, in the same order."""
    dead = dead_by(book, day)
    out = out_by(book, day)
    left = [who for who in reached if who not in dead and who not in out]
    return [who for who in left if row[1] != "only" or is_man(house, who)]
