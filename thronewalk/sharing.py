"""Looking over a sharing of thrones nobody may have two of."""

from thronewalk.plain import is_number, is_tuple_of


def at_rest(orders, wishes, thing):
    wished = wishes_by(wishes)
    if not is_right(orders, wished, thing):
        return False
    for throne in range(len(orders)):
        if any(would_move(orders, wished, thing, throne, who) for who in orders[throne]):
            return False
    return True


def wishes_by(wishes):
    """The thrones that each number would take, the dearest one first."""
    return {who: thrones for who, thrones in wishes}


def is_right(orders, wished, thing):
    if not is_tuple_of(thing, len(orders)) or not all(is_number(who) for who in thing):
        return False
    return all(thing[throne] == -1 or may_take(orders, wished, thing, throne) for throne in range(len(orders)))


def may_take(orders, wished, sharing, throne):
    who = sharing[throne]
    return who in orders[throne] and throne in wished.get(who, ()) and sharing.count(who) == 1


def would_move(orders, wished, sharing, throne, who):
    """Whether who would have the throne rather, and it would have who rather."""
    if not is_dearer(wished.get(who, ()), throne, throne_of(sharing, who)):
        return False
    return is_preferred(orders[throne], who, sharing[throne])


def throne_of(sharing, who):
    return sharing.index(who) if who in sharing else -1


def is_dearer(thrones, throne, had):
    """Whether one with these wishes would take the throne, having another one, or none (-1)."""
    if throne not in thrones:
        return False
    return had == -1 or thrones.index(throne) < thrones.index(had)


def is_preferred(order, who, holder):
    """Whether a throne with this order would leave its holder (-1 for nobody) for who."""
    return holder == -1 or order.index(who) < order.index(holder)
