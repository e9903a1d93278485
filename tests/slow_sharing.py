"""Points [24] and [25] once more, gone through word by word, for few thrones only."""

from itertools import product


def wishes_of(wishes, who):
    found = [thrones for number, thrones in wishes if number == who]
    return found[0] if found else ()


def is_right(orders, wishes, sharing):
    for throne, who in enumerate(sharing):
        if who != -1:
            if who not in orders[throne] or throne not in wishes_of(wishes, who):
                return False
            if [other for other in sharing if other == who] != [who]:
                return False
    return True


def disturbs(orders, wishes, sharing, throne, who):
    """Whether these are a throne and a number that there may not be in a sharing at rest."""
    wished = list(wishes_of(wishes, who))
    if who not in orders[throne] or throne not in wished:
        return False
    had = [other for other in range(len(orders)) if sharing[other] == who]
    if had and wished.index(had[0]) <= wished.index(throne):
        return False
    holder = sharing[throne]
    return holder == -1 or orders[throne].index(who) < orders[throne].index(holder)


def is_at_rest(orders, wishes, thing):
    if type(thing) is not tuple or len(thing) != len(orders) or any(type(who) is not int for who in thing):
        return False
    if not is_right(orders, wishes, thing):
        return False
    return not any(disturbs(orders, wishes, thing, throne, who) for throne in range(len(orders)) for who in range(61))


def all_at_rest(orders, wishes):
    """Each sharing at rest there is."""
    sharings = product(*[(-1,) + order for order in orders])
    return [sharing for sharing in sharings if is_at_rest(orders, wishes, sharing)]


def by_thrones(orders, wishes, turn):
    has, asks = {}, []
    while True:
        bare = [throne for throne in turn if throne not in has.values()]
        unasked = [(t, who) for t in bare for who in orders[t] if (t, who) not in [ask[:2] for ask in asks]]
        if not unasked:
            return tuple(holder(has, throne) for throne in range(len(orders))), tuple(asks)
        throne, who = unasked[0]
        wished = wishes_of(wishes, who)
        if throne not in wished or (who in has and wished.index(has[who]) < wished.index(throne)):
            asks.append((throne, who, "no"))
        else:
            asks.append((throne, who, "turns" if who in has else "takes"))
            has[who] = throne


def holder(has, throne):
    return ([who for who in has if has[who] == throne] + [-1])[0]


def by_folk(orders, wishes):
    sharing, asked = [-1] * len(orders), []
    while True:
        able = [
            (who, throne) for who, thrones in wishes if who not in sharing for throne in thrones
            if (who, throne) not in asked and who in orders[throne]]
        if not able:
            return tuple(sharing)
        who, throne = able[0]
        asked.append((who, throne))
        order = orders[throne]
        if sharing[throne] == -1 or order.index(sharing[throne]) > order.index(who):
            sharing[throne] = who
