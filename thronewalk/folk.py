"""Houses and their folk: tuples (day, father, mother, man, wed)."""

from thronewalk.errors import NoHouse
from thronewalk.plain import is_number, is_tuple_of

MOST_FOLK = 60
LAST_DAY = 99999


def check_house(thing):
    if not is_house(thing):
        raise NoHouse()


def is_house(thing):
    if not isinstance(thing, tuple) or not 1 <= len(thing) <= MOST_FOLK:
        return False
    if not all(has_folk_form(folk) for folk in thing):
        return False
    return all(fits_in(thing, who) for who in range(len(thing)))


def has_folk_form(thing):
    if not is_tuple_of(thing, 5) or not all(is_number(part) for part in thing):
        return False
    day, father, mother, man, wed = thing
    return 0 <= day <= LAST_DAY and man in (0, 1) and wed in (0, 1)


def fits_in(house, who):
    if who > 0 and day_of(house, who) < day_of(house, who - 1):
        return False
    return parent_fits(house, who, house[who][1], True) and parent_fits(house, who, house[who][2], False)


def parent_fits(house, who, parent, man):
    if parent == -1:
        return True
    if not 0 <= parent < len(house):
        return False
    return is_man(house, parent) == man and day_of(house, parent) < day_of(house, who)


def is_folk_of(house, thing):
    return is_number(thing) and 0 <= thing < len(house)


def are_folk_of(house, thing):
    return isinstance(thing, tuple) and all(is_folk_of(house, part) for part in thing)


def parents_of(house, who):
    return [parent for parent in house[who][1:3] if parent != -1]


def day_of(house, who):
    return house[who][0]


def is_man(house, who):
    return house[who][3] == 1


def is_wed(house, who):
    return house[who][4] == 1


def born_by(house, day):
    return len([folk for folk in house if folk[0] <= day])


def children_of(house, who):
    return tuple(child for child in range(len(house)) if who in (house[child][1], house[child][2]))
