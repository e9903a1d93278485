"""Houses, books, rows and odd things for the tests."""

# A hand-made house: 7 is led to through both grandchildren, 8 through two siblings.
FAMILY = (
    (0, -1, -1, 1, 1),
    (0, -1, -1, 0, 1),
    (10, 0, 1, 0, 1),
    (20, 0, 1, 1, 1),
    (20, 0, -1, 1, 0),
    (40, -1, 2, 1, 1),
    (40, 3, -1, 0, 1),
    (60, 5, 6, 1, 1),
    (60, 3, 2, 1, 1),
    (70, 4, -1, 0, 1),
)

LAST = 99999
MEN = ("alike", "first", "only")
WAYS = ("lines", "age", "near")
WORDS = ("awaits", "cuts", "dies", "leaves", "returns")


class Dice:
    """The same numbers in each run, on each Python."""

    def __init__(self, seed):
        self.state = seed * 2654435761 + 12345

    def below(self, many):
        self.state = (self.state * 6364136223846793005 + 1442695040888963407) & ((1 << 64) - 1)
        return (self.state >> 33) % many

    def one_of(self, things):
        return things[self.below(len(things))]


def some_parent(dice, folk, day, man):
    fit = [at for at, other in enumerate(folk) if other[0] < day and other[3] == man]
    return -1 if not fit or dice.below(8) == 0 else dice.one_of(fit)


def some_house(dice, many, last_day):
    folk = []
    for day in sorted([0] + [dice.below(last_day + 1) for _ in range(many - 1)]):
        father = some_parent(dice, folk, day, 1)
        mother = some_parent(dice, folk, day, 0)
        folk.append((day, father, mother, dice.below(2), 0 if dice.below(6) == 0 else 1))
    return tuple(folk)


def some_book(dice, house, many, last_day):
    told = set()
    for _ in range(many):
        who = dice.below(len(house))
        day = min(LAST, house[who][0] + dice.below(last_day))
        told.add((dice.one_of(("cuts", "dies", "leaves", "returns")), day, who, -1))
    return tuple(sorted(told))


def all_rows(founder):
    return tuple((founder, men, wed, "lines") for men in MEN for wed in (0, 1))


def some_cases(seed, many, folk, last_day=12):
    """Tuples (house, book, row, day), of small houses in which much befalls."""
    dice = Dice(seed)
    cases = []
    for _ in range(many):
        house = some_house(dice, folk - dice.below(4), last_day)
        book = some_book(dice, house, dice.below(8), last_day)
        founder = dice.one_of((0, 0, 1, 2))
        day = last_day + 2 - min(dice.below(last_day + 3), dice.below(last_day + 3))
        cases.append((house, book, dice.one_of(all_rows(founder)), day))
    return cases


def some_awaits(dice, house, last_day):
    """An "awaits" of the house, or None where it has no mother for one."""
    women = [who for who in range(len(house)) if house[who][3] == 0 and house[who][0] < LAST]
    if not women:
        return None
    who = dice.one_of(women)
    day = min(LAST, house[who][0] + 1 + dice.below(last_day))
    men = [other for other in range(len(house)) if house[other][3] == 1 and house[other][0] < day]
    return ("awaits", day, who, dice.one_of([-1] + men))


def some_whole_book(dice, house, many, last_day):
    """A book with each of the five words."""
    told = set(some_book(dice, house, many - many // 3, last_day))
    for _ in range(many // 3):
        told.add(some_awaits(dice, house, last_day))
    return tuple(sorted(news for news in told if news is not None))


def some_rule(dice, house):
    first = dice.one_of((0, 0, 1, 2))
    fit = [who for who in range(len(house)) if house[who][0] <= house[first][0]]
    founders = [first] + [dice.one_of(fit) for _ in range(dice.below(3))]
    return tuple((founder, dice.one_of(MEN), dice.below(2), dice.one_of(WAYS)) for founder in founders)


def some_thrones(seed, many, folk, last_day=12, news=12):
    """Tuples (house, book, rule, day), the day from the beginning of the throne on."""
    dice = Dice(seed)
    cases = []
    for _ in range(many):
        house = some_house(dice, folk - dice.below(3), last_day)
        rule = some_rule(dice, house)
        begins = house[rule[0][0]][0]
        book = some_whole_book(dice, house, dice.below(news + 1), last_day)
        # A founder who lives sits on and on.
        if dice.below(3) > 0:
            book = tuple(sorted({*book, ("dies", begins + dice.below(last_day), rule[0][0], -1)}))
        cases.append((house, book, rule, begins + dice.below(last_day + 2)))
    return cases


def all_rules(founder):
    """A rule of one row for each kind of row."""
    return tuple(((founder, men, wed, way),) for men in MEN for wed in (0, 1) for way in WAYS)


def ladder(many):
    """Each folk is a child of the two ahead: the lines to them are very many."""
    return tuple(rung(at) for at in range(many))


def rung(at):
    parents = [parent for parent in (at - 1, at - 2) if parent >= 0]
    father = [parent for parent in parents if parent % 2 == 0]
    mother = [parent for parent in parents if parent % 2 == 1]
    return (at, father[0] if father else -1, mother[0] if mother else -1, 1 - at % 2, 1)


def row_of(many):
    """A house of so many folk of whom none is another's parent."""
    return tuple((at, -1, -1, at % 2, 1) for at in range(many))


def nested(depth):
    thing = ()
    for _ in range(depth):
        thing = (thing,)
    return thing


ODD_THINGS = (
    None, True, False, 0, 1, -1, 10 ** 59, -10 ** 59, "", "lines", "a b\n", "x" * 4000,
    (None,), (True,), (False,), ("",), ("0",), ((),), ((), ()), ([],), ({},), (-1,), (10 ** 59,), (-2, -1),
    [], [0], [(0,)], {}, {0: 1}, {"a": (0,)}, [[], {}], ((0, -1), None), (None, None), (0, 0), (1, 1, 1),
    ("lines", (0,), ()), nested(19), (0,) * 9999, ((0, -1),) * 5000, tuple(range(19999)), ["a"] * 19999,
)


def listed(thing):
    """The same with lists where tuples stood."""
    return [listed(part) for part in thing] if isinstance(thing, tuple) else thing


def as_truths(thing):
    """The same with True and False where 1 and 0 stood."""
    if isinstance(thing, tuple):
        return tuple(as_truths(part) for part in thing)
    return bool(thing) if isinstance(thing, int) and thing in (0, 1) else thing


def is_plain(thing):
    """Whether it's made of tuples, numbers, texts and truths of Python's own classes alone."""
    if type(thing) is tuple:
        return all(is_plain(part) for part in thing)
    return type(thing) in (int, str, bool)


def changed(thing):
    """All that comes of it when one of its parts, at whatever depth, is changed, left out or put in."""
    out = []
    for at, part in enumerate(thing):
        out.append(thing[:at] + thing[at + 1:])
        out.append(thing[:at] + (part, part) + thing[at + 1:])
        for other in (None, True, -1, 0, 1, 2, 7, 10 ** 20, "lines", (), (0,), [0]):
            out.append(thing[:at] + (other,) + thing[at + 1:])
            out.append(thing[:at] + (other,) + thing[at:])
        if isinstance(part, tuple):
            out.append(thing[:at] + (list(part),) + thing[at + 1:])
            out.extend(thing[:at] + (inner,) + thing[at + 1:] for inner in changed(part))
    out.append(thing + (None,))
    out.append(list(thing))
    return out
