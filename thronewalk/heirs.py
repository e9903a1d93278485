"""The heir beside who sits, and whether a birth can take the heir's place."""

from thronewalk.births import births_behind
from thronewalk.firstmaking import first_and_paper
from thronewalk.folk import born_by
from thronewalk.news import book_up_to
from thronewalk.orders import order_of
from thronewalk.sures import right_sure


def heir_of(house, book, rule, day, sits):
    who, paper = first_and_paper(house, book, rule, day, sits, sits)
    if who == -1:
        return ("nobody",)
    if right_sure(house, book, rule, day, sits, who, paper):
        return ("sure", who, paper)
    return ("open", who, birth_ahead_of(house, book, rule, day, sits, who))


def birth_ahead_of(house, book, rule, day, sits, who):
    """A birth whose child stands ahead of who; () if there is none, and then who is sure."""
    born = house[:born_by(house, day)]
    told = book_up_to(book, day)
    for birth in births_behind(house, book, day):
        order = order_of(born + (birth,), told, rule, day + 1, sits)
        if len(born) in order[:order.index(who)]:
            return birth
    return ()
