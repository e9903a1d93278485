"""Steps from a folk to its children, and lines of them from the founder on."""

from thronewalk.folk import are_folk_of, children_of, day_of, is_man, is_wed
from thronewalk.news import cut_from
from thronewalk.rules import founder_is_born


def steps_of(house, book, row, day, who):
    men = row[1]
    if men == "only" and not is_man(house, who):
        return ()
    cut = cut_from(book, day, who)
    found = [child for child in children_of(house, who) if child_counts(house, row, day, cut, child)]
    if men == "first":
        sons = [child for child in found if is_man(house, child)]
        daughters = [child for child in found if not is_man(house, child)]
        return tuple(sons + daughters)
    return tuple(found)


def child_counts(house, row, day, cut, child):
    born = day_of(house, child)
    if born > day or (row[2] == 1 and not is_wed(house, child)):
        return False
    return cut == -1 or cut > born


def is_line(house, book, row, day, thing):
    if not are_folk_of(house, thing) or len(thing) == 0:
        return False
    if thing[0] != row[0] or not founder_is_born(house, row, day):
        return False
    return all(thing[at] in steps_of(house, book, row, day, thing[at - 1]) for at in range(1, len(thing)))


def lines_many(house, book, row, day, who):
    if not founder_is_born(house, row, day):
        return 0
    many = [0] * len(house)
    many[row[0]] = 1
    # A step goes to a greater number, so each count is whole when it is handed on.
    for parent in range(row[0], who):
        if many[parent] > 0:
            for child in steps_of(house, book, row, day, parent):
                many[child] += many[parent]
    return many[who]
