"""Who may yet have a child that counts, and which births there may be."""

from thronewalk.folk import born_by, is_man
from thronewalk.news import cuts_by, dead_by
from thronewalk.steps import lines_many
from thronewalk.waits import open_awaits


def may_have(house, book, row, day, who):
    return lines_many(house, book, row, day, who) > 0 and parents_to_be(house, book, row, day, (who,)) == [who]


def parents_to_be(house, book, row, day, reached):
    """Those of some folk, all of them reached, who may have a child that counts by the row."""
    cuts = cuts_by(book, day)
    dead = dead_by(book, day)
    fathers = [book[place][3] for place in open_awaits(house, book, day)]
    left = [who for who in reached if who not in cuts and (who not in dead or who in fathers)]
    return [who for who in left if row[1] != "only" or is_man(house, who)]


def births_behind(house, book, day):
    """All births that there may be on the day behind a day."""
    dead = dead_by(book, day)
    births = [birth_of_one(house, day + 1, who) for who in range(born_by(house, day)) if who not in dead]
    for place in open_awaits(house, book, day):
        word, told, mother, father = book[place]
        births.append((day + 1, father, mother, 1, 1))
    return births


def birth_of_one(house, day, parent):
    if is_man(house, parent):
        return (day, parent, -1, 1, 1)
    return (day, -1, parent, 1, 1)
