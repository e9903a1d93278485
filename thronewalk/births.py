"""Who may yet have a child that counts."""

from thronewalk.folk import is_man
from thronewalk.news import cuts_by, dead_by
from thronewalk.steps import lines_many
from thronewalk.waits import open_awaits


def may_have(house, book, row, day, who):
    return lines_many(house, book, row, day, who) > 0 and parents_to_be(house, book, row, day, (who,)) == [who]


def parents_to_be(house, book, row, day, reached):
    """Those of some folk, all of them reached, who may have a child that counts by the row."""
    cuts = cuts_by(book, day)
    dead = dead_by(book, day)
    fathers = [book[place][3] for place in open_awaits(house, book, day)]
    left = [who for who in reached if who not in cuts and (who not in dead or who in fathers)]
    return [who for who in left if row[1] != "only" or is_man(house, who)]
