"""Looking over the paper of a sure heir, whose place no birth can take."""

from thronewalk.births import parents_to_be
from thronewalk.degrees import degrees
from thronewalk.firsts import right_without
from thronewalk.folk import is_man
from thronewalk.reach import members_of


def right_sure(house, book, rule, day, sits, who, thing):
    # The parts are read below only once they are known to be such.
    if who == sits or not right_without(house, book, rule, day, sits, who, sits, thing):
        return False
    return all(no_birth_ahead(house, book, rule[at], day, sits, who, thing[at]) for at in range(len(thing)))


def no_birth_ahead(house, book, row, day, sits, who, part):
    if part[0] == "lines":
        return len(parents_to_be(house, book, row, day, ranked_ahead_of(house, row, part[1], part[2]))) == 0
    parents = parents_to_be(house, book, row, day, members_of(part[1]))
    if part[0] == "nobody":
        return len(parents) == 0
    if part[0] == "near":
        told = degrees(house, book, row, day, sits)
        return all(is_not_nearer(told[parent], told[who]) for parent in parents)
    return True


def ranked_ahead_of(house, row, line, ahead):
    """All whose next child would come ahead of who the line ends in."""
    found = [folk for folk in ahead if folk not in line]
    if row[1] == "first":
        found.extend([line[at] for at in range(len(line) - 1) if not is_man(house, line[at + 1])])
    return found


def is_not_nearer(parent, heir):
    """Whether a child of one with the one degree doesn't come ahead of an heir with the other."""
    return parent == -1 or (heir != -1 and parent + 1 >= heir)
