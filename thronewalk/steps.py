"""Steps from a folk to its children, and lines of them from the founder on."""

from thronewalk.folk import are_folk_of, day_of, is_man, is_wed, parents_of
from thronewalk.news import cuts_by
from thronewalk.rules import founder_is_born


def steps_of(house, book, row, day, who):
    return tuple(all_steps(house, book, row, day)[who])


def all_steps(house, book, row, day):
    """The steps from each folk, by its number."""
    cuts = cuts_by(book, day)
    steps = [[] for folk in house]
    # Gone through by rank, so those from each folk stand by rank, too.
    for child in by_rank(house, row):
        if child_counts(house, row, day, child):
            for parent in parents_of(house, child):
                if parent_counts(house, row, cuts, parent, child):
                    steps[parent].append(child)
    return steps


def by_rank(house, row):
    numbers = list(range(len(house)))
    if row[1] != "first":
        return numbers
    men = [who for who in numbers if is_man(house, who)]
    return men + [who for who in numbers if not is_man(house, who)]


def child_counts(house, row, day, child):
    return day_of(house, child) <= day and (row[2] == 0 or is_wed(house, child))


def parent_counts(house, row, cuts, parent, child):
    if row[1] == "only" and not is_man(house, parent):
        return False
    return parent not in cuts or cuts[parent] > day_of(house, child)


def is_line(house, book, row, day, thing):
    if not are_folk_of(house, thing) or len(thing) == 0:
        return False
    if thing[0] != row[0] or not founder_is_born(house, row, day):
        return False
    steps = all_steps(house, book, row, day)
    return all(thing[at] in steps[thing[at - 1]] for at in range(1, len(thing)))


def lines_many(house, book, row, day, who):
    if not founder_is_born(house, row, day):
        return 0
    steps = all_steps(house, book, row, day)
    many = [0] * len(house)
    many[row[0]] = 1
    # A step goes to a greater number, so each count is whole when it is handed on.
    for parent in range(row[0], who):
        for child in steps[parent]:
            many[child] += many[parent]
    return many[who]
