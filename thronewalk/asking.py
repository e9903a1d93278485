"""Sharing thrones nobody may have two of: the thrones ask, or the folk do."""

from thronewalk.sharing import is_dearer, is_preferred, throne_of, wishes_by


def by_thrones(orders, wishes, turn):
    wished = wishes_by(wishes)
    sharing = [-1] * len(orders)
    # A throne asks by its order, so those whom it has asked are the first ones.
    asked = [0] * len(orders)
    asks = []
    throne = asking_throne(orders, turn, sharing, asked)
    while throne != -1:
        who = orders[throne][asked[throne]]
        asked[throne] += 1
        had = throne_of(sharing, who)
        word = answer(wished.get(who, ()), throne, had)
        if word != "no":
            take(sharing, throne, who, had)
        asks.append((throne, who, word))
        throne = asking_throne(orders, turn, sharing, asked)
    return (tuple(sharing), tuple(asks))


def asking_throne(orders, turn, sharing, asked):
    """The throne that asks next, -1 if none does."""
    for throne in turn:
        if sharing[throne] == -1 and asked[throne] < len(orders[throne]):
            return throne
    return -1


def answer(thrones, throne, had):
    if not is_dearer(thrones, throne, had):
        return "no"
    return "takes" if had == -1 else "turns"


def take(sharing, throne, who, had):
    if had != -1:
        sharing[had] = -1
    sharing[throne] = who


def by_folk(orders, wishes):
    wished = {who: [throne for throne in thrones if who in orders[throne]] for who, thrones in wishes}
    sharing = [-1] * len(orders)
    asked = {who: 0 for who in wished}
    who = asking_folk(wished, sharing, asked)
    while who != -1:
        throne = wished[who][asked[who]]
        asked[who] += 1
        if is_preferred(orders[throne], who, sharing[throne]):
            sharing[throne] = who
        who = asking_folk(wished, sharing, asked)
    return tuple(sharing)


def asking_folk(wished, sharing, asked):
    """The number that asks next, -1 if none does."""
    # Wishes rise by their numbers, so the first one is the least.
    for who in wished:
        if who not in sharing and asked[who] < len(wished[who]):
            return who
    return -1
