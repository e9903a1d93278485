"""Points [15] to [22] once more, gone through word by word and day by day, for small houses only."""

from functools import lru_cache

from tests import slow

reached = lru_cache(maxsize=None)(slow.reached)
degree = lru_cache(maxsize=None)(slow.degree)
walk = lru_cache(maxsize=None)(slow.plain_walk)


def dead(book, day, who):
    return any(word == "dies" and told <= day and folk == who for word, told, folk, other in book)


def out(book, day, who):
    backs = [told for word, told, folk, other in book if word == "returns" and told <= day and folk == who]
    left = [told for word, told, folk, other in book if word in ("leaves", "cuts") and told <= day and folk == who]
    return any(all(told > back for back in backs) for told in left)


def stands(house, book, row, day, who):
    if row[1] == "only" and house[who][3] == 0:
        return False
    return who in reached(house, book, row, day) and not dead(book, day, who) and not out(book, day, who)


def comes_ahead(house, book, row, day, last, one, other):
    """By one row, whether the one of two who stand comes ahead of the other."""
    if row[3] == "lines":
        order = walk(house, book, row, day)
        return order.index(one) < order.index(other)
    if row[3] == "age":
        return one < other
    first = degree(house, book, row, day, last, one)
    second = degree(house, book, row, day, last, other)
    if first == second:
        return one < other
    return first != -1 and (second == -1 or first < second)


def order_of(house, book, rule, day, last):
    order = []
    for row in rule:
        folk = [who for who in range(len(house)) if stands(house, book, row, day, who)]
        # Where each is put behind just those who come ahead of it.
        placed = sorted(folk, key=lambda who: sum(
            comes_ahead(house, book, row, day, last, other, who) for other in folk if other != who))
        order.extend(who for who in placed if who not in order)
    return tuple(order)


def first_of(house, book, rule, day, last):
    return (order_of(house, book, rule, day, last) + (-1,))[0]


def numbers(thing):
    return type(thing) is tuple and all(slow.number(part) for part in thing)


def is_part(part, word, many):
    return type(part) is tuple and len(part) == many and type(part[0]) is str and part[0] == word


def says_nobody(house, book, row, day, beside, part):
    if not is_part(part, "nobody", 2) or not slow.is_reach(house, book, row, day, part[1]):
        return False
    return not any(stands(house, book, row, day, who) for who, parent in part[1] if who != beside)


def says_first(house, book, row, day, last, who, beside, part):
    if not stands(house, book, row, day, who):
        return False
    if row[3] == "lines":
        if not is_part(part, "lines", 3) or not numbers(part[1]) or not numbers(part[2]):
            return False
        if not slow.is_place(house, book, row, day, who, part[1:]):
            return False
        return not any(stands(house, book, row, day, folk) for folk in part[2] if folk != beside)
    if not is_part(part, row[3], 2) or not slow.is_reach(house, book, row, day, part[1]):
        return False
    others = [folk for folk, parent in part[1] if folk not in (who, beside) and stands(house, book, row, day, folk)]
    return all(comes_ahead(house, book, row, day, last, who, folk) for folk in others)


def is_first_paper(house, book, rule, day, last, who, thing, beside=-1):
    if type(thing) is not tuple or len(thing) == 0 or len(thing) > len(rule):
        return False
    if who == -1:
        parts = list(zip(rule, thing))
        return len(parts) == len(rule) and all(says_nobody(house, book, row, day, beside, p) for row, p in parts)
    parts = list(zip(rule, thing[:-1]))
    if not all(says_nobody(house, book, row, day, beside, part) for row, part in parts):
        return False
    return says_first(house, book, rule[len(parts)], day, last, who, beside, thing[-1])


def open_awaits(house, book, day):
    places = []
    for place, (word, told, who, other) in enumerate(book):
        born = [folk for folk in house if folk[2] == who and told < folk[0] <= day]
        if word == "awaits" and 0 <= day - told <= 299 and not dead(book, day, who) and not born:
            places.append(place)
    return places


def up_to(book, day):
    return tuple(news for news in book if news[1] <= day)


def child_house(house, book, day, place):
    born = [folk for folk in house if folk[0] <= day]
    return tuple(born) + ((day, book[place][3], book[place][2], 1, 1),)


def comes_to_sit(house, book, rule, day, last):
    for place in open_awaits(house, book, day):
        awaited = child_house(house, book, day, place)
        if first_of(awaited, up_to(book, day), rule, day, last) == len(awaited) - 1:
            return -1
    return first_of(house, book, rule, day, last)


def seats(house, book, rule, until):
    """Tuples (day, sits, last) of each day from the beginning on, one day after another."""
    sits, last, told = -1, rule[0][0], []
    for day in range(house[last][0], until + 1):
        if sits == -1 or dead(book, day, sits) or out(book, day, sits):
            sits = comes_to_sit(house, book, rule, day, last)
            last = last if sits == -1 else sits
        told.append((day, sits, last))
    return told


def reigns(house, book, rule, until):
    pairs = []
    for day, sits, last in seats(house, book, rule, until):
        if not pairs or pairs[-1][1] != sits:
            pairs.append((day, sits))
    return tuple(pairs)


def is_reign_row(house, book, rule, day, last, row):
    if type(row) is not tuple or len(row) != 5 or type(row[0]) is not int or type(row[1]) is not int:
        return False
    if row[0] != day or type(row[2]) is not str:
        return False
    places = open_awaits(house, book, day)
    houses = [child_house(house, book, day, place) for place in places]
    before = up_to(book, day)
    if row[2] == "waits":
        if row[1] != -1 or type(row[3]) is not int or row[3] not in places:
            return False
        awaited = houses[places.index(row[3])]
        return is_first_paper(awaited, before, rule, day, last, len(awaited) - 1, row[4])
    if row[2] not in ("sits", "nobody") or (row[1] == -1) != (row[2] == "nobody"):
        return False
    if not -1 <= row[1] < len([folk for folk in house if folk[0] <= day]):
        return False
    if not is_first_paper(house, book, rule, day, last, row[1], row[3]):
        return False
    if type(row[4]) is not tuple or len(row[4]) != len(places):
        return False
    return all(is_first_paper(h, before, rule, day, last, row[1], p) for h, p in zip(houses, row[4]))


def is_reign_paper(house, book, rule, until, thing):
    if type(thing) is not tuple:
        return False
    rows = list(thing)
    sits, last = -1, rule[0][0]
    begins = house[last][0]
    days = {begins} | {folk[0] for folk in house} | {news[1] for news in book}
    days |= {news[1] + 300 for news in book if news[0] == "awaits"}
    for day in range(begins, until + 1):
        if day in days and (sits == -1 or dead(book, day, sits) or out(book, day, sits)):
            if not rows or not is_reign_row(house, book, rule, day, last, rows[0]):
                return False
            sits = rows.pop(0)[1]
            last = last if sits == -1 else sits
    return rows == []


def moments(house, book, rule, day, news):
    begins = house[rule[0][0]][0]
    ahead = seats(house, book, rule, day - 1)
    sits, last = ahead[-1][1:] if day > begins else (-1, rule[0][0])
    told = []
    came = list(up_to(book, day - 1))
    for one in news:
        came.append(one)
        so_far = tuple(sorted(came))
        if sits == -1 or dead(so_far, day, sits) or out(so_far, day, sits):
            sits = comes_to_sit(house, so_far, rule, day, last)
            last = last if sits == -1 else sits
        told.append(sits)
    return tuple(told)


def may_have(house, book, row, day, who):
    if who not in reached(house, book, row, day) or slow.cut_day(book, day, who) is not None:
        return False
    if row[1] == "only" and house[who][3] == 0:
        return False
    return not dead(book, day, who) or who in [book[place][3] for place in open_awaits(house, book, day)]


def births(house, book, day):
    """All births there are, with 1 for man and for wed."""
    found = []
    for who in range(len([folk for folk in house if folk[0] <= day])):
        if not dead(book, day, who):
            father, mother = (who, -1) if house[who][3] == 1 else (-1, who)
            found.append((day + 1, father, mother, 1, 1))
    for place in open_awaits(house, book, day):
        found.append((day + 1, book[place][3], book[place][2], 1, 1))
    return found


def heir(house, book, rule, day, sits):
    others = [who for who in order_of(house, book, rule, day, sits) if who != sits]
    return others[0] if others else -1


def is_passed_by(house, book, rule, day, sits, who, birth):
    """Whether the one who is born stands ahead of who on the next day."""
    born = tuple(folk for folk in house if folk[0] <= day)
    order = order_of(born + (birth,), up_to(book, day), rule, day + 1, sits)
    child = len(born)
    return child in order and order.index(child) < order.index(who)


def is_sure_paper(house, book, rule, day, sits, who, thing):
    if who == sits or not is_first_paper(house, book, rule, day, sits, who, thing, sits):
        return False
    return all(leaves_no_birth(house, book, row, day, sits, who, part) for row, part in zip(rule, thing))


def leaves_no_birth(house, book, row, day, sits, who, part):
    def may(folk):
        return may_have(house, book, row, day, folk)

    if part[0] == "nobody":
        return not any(may(folk) for folk, parent in part[1])
    if part[0] == "lines":
        line, ahead = part[1:]
        if any(may(folk) for folk in ahead if folk not in line):
            return False
        pairs = list(zip(line, line[1:]))
        return row[1] != "first" or not any(may(folk) for folk, after in pairs if house[after][3] == 0)
    if part[0] == "near":
        of_heir = degree(house, book, row, day, sits, who)
        for folk, parent in part[1]:
            told = degree(house, book, row, day, sits, folk)
            if may(folk) and told != -1 and (of_heir == -1 or told + 1 < of_heir):
                return False
    return True
