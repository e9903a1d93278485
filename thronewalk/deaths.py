"""How few deaths bring one to the front of an order, part two orders, or join them."""

from thronewalk.beginnings import folk_at, shared_many
from thronewalk.errors import NoPlace
from thronewalk.plain import is_number, is_rising, is_tuple_of


def to_seat(order, who):
    if who not in order:
        raise NoPlace()
    return tuple(sorted(ahead_of(order, who)))


def ahead_of(order, who):
    return order[:order.index(who)]


def to_part(one, other):
    if one == other:
        return ()
    # As long as one of those lives whom both begin with, the first ones are alike.
    many = shared_many(one, other)
    return (tuple(sorted(one[:many])), folk_at(one, many), folk_at(other, many))


def to_join(one, other):
    ways = [(joining(one, other, who), who) for who in one if who in other]
    return min(ways, key=lambda way: (len(way[0]), way[0])) if ways else ()


def joining(one, other, who):
    """All deaths that it takes until both orders begin with who."""
    return tuple(sorted(set(ahead_of(one, who) + ahead_of(other, who))))


def right_join(one, other, thing):
    if not is_tuple_of(thing, 2) or not is_number(thing[1]):
        return False
    deaths, who = thing
    if not are_deaths_of(one + other, deaths):
        return False
    return who != -1 and first_behind(one, deaths) == who and first_behind(other, deaths) == who


def first_behind(order, deaths):
    """The first one of an order behind some deaths, -1 if nobody is left."""
    return folk_at([who for who in order if who not in deaths], 0)


def are_deaths_of(folk, thing):
    if not isinstance(thing, tuple) or not all(is_number(part) for part in thing):
        return False
    return is_rising(thing) and all(part in folk for part in thing)
