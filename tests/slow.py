"""The document's words once more, gone through word by word, for small houses only."""

from itertools import chain, combinations


def number(thing):
    return type(thing) is int


def cut_day(book, day, who):
    backs = [d for w, d, f, o in book if w == "returns" and f == who and d <= day]
    back = sorted([-1] + backs)[-1]
    cuts = [d for w, d, f, o in book if w == "cuts" and f == who and back < d <= day]
    return sorted(cuts)[0] if cuts else None


def step(house, book, row, day, parent, child):
    founder, men, wed, way = row
    born, father, mother, man, in_wedlock = house[child]
    if parent not in (father, mother) or not born <= day:
        return False
    if wed == 1 and in_wedlock == 0:
        return False
    if men == "only" and house[parent][3] == 0:
        return False
    cut = cut_day(book, day, parent)
    return cut is None or born < cut


def rank(house, row, child):
    return (1 - house[child][3], child) if row[1] == "first" else (0, child)


def steps(house, book, row, day, parent):
    found = [child for child in range(len(house)) if step(house, book, row, day, parent, child)]
    return sorted(found, key=lambda child: rank(house, row, child))


def lines(house, book, row, day):
    """All lines there are."""
    if house[row[0]][0] > day:
        return []
    out = [(row[0],)]
    for line in out:
        out.extend(line + (child,) for child in range(len(house)) if step(house, book, row, day, line[-1], child))
    return out


def reached(house, book, row, day):
    return sorted({line[-1] for line in lines(house, book, row, day)})


def least_lines(house, book, row, day):
    """The least line of each who is reached, from the least of them on."""
    by_rank = sorted(lines(house, book, row, day), key=lambda line: [rank(house, row, folk) for folk in line])
    least = {}
    for line in by_rank:
        least.setdefault(line[-1], line)
    return least


def plain_walk(house, book, row, day):
    """The walk as it is told of: to each step, and from it on, before the next one."""
    came = []

    def go(who):
        if who not in came:
            came.append(who)
            for child in steps(house, book, row, day, who):
                go(child)

    if house[row[0]][0] <= day:
        go(row[0])
    return tuple(came)


def is_reach(house, book, row, day, thing):
    if type(thing) is not tuple:
        return False
    for pair in thing:
        if type(pair) is not tuple or len(pair) != 2 or not number(pair[0]) or not number(pair[1]):
            return False
    if house[row[0]][0] > day:
        return len(thing) == 0
    if (row[0], -1) not in thing or list(thing) != sorted(set(thing)):
        return False
    folk = [pair[0] for pair in thing]
    if len(set(folk)) != len(folk) or not set(folk) <= set(range(len(house))):
        return False
    for who, parent in thing:
        if (who, parent) != (row[0], -1):
            if parent not in folk or not step(house, book, row, day, parent, who):
                return False
    return all(child in folk for who in folk for child in steps(house, book, row, day, who))


def is_place(house, book, row, day, who, thing):
    """Clause by clause, in the document's own order."""
    line, ahead = thing
    if line not in lines(house, book, row, day) or line[-1] != who:
        return False
    if list(ahead) != sorted(set(ahead)) or who in ahead or not set(line[:-1]) <= set(ahead):
        return False
    others = [folk for folk in ahead if folk not in line]
    firsts = []
    for at in range(len(line) - 1):
        for child in steps(house, book, row, day, line[at]):
            if rank(house, row, child) < rank(house, row, line[at + 1]):
                firsts.append(child)
    if not all(child in ahead and child not in line for child in firsts):
        return False
    for folk in others:
        if not all(child in ahead and child not in line for child in steps(house, book, row, day, folk)):
            return False
    return all(folk in firsts or any(step(house, book, row, day, other, folk) for other in others) for folk in others)


def subsets(things):
    return chain.from_iterable(combinations(things, many) for many in range(len(things) + 1))


def degree(house, book, row, day, one, other):
    """The least number of goings, first up, then down, tried one length after another."""
    folk = reached(house, book, row, day)
    if one not in folk:
        return -1
    places = {(one, "up")}
    for many in range(2 * len(house) + 1):
        if other in [place[0] for place in places]:
            return many
        places = set(chain.from_iterable(goings(house, book, row, day, folk, place) for place in places))
    return -1


def goings(house, book, row, day, folk, place):
    who, way = place
    out = [(child, "down") for child in folk if step(house, book, row, day, who, child)]
    if way == "up":
        out.extend((parent, "up") for parent in folk if step(house, book, row, day, parent, who))
    return out
