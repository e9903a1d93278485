"""Making the paper of reigns."""

from thronewalk.firstmaking import first_and_paper
from thronewalk.news import book_up_to
from thronewalk.thrones import last_behind, sits_on, turning_days
from thronewalk.waits import child_house, open_awaits


def reign_paper(house, book, rule, until):
    rows = []
    sits = -1
    last = rule[0][0]
    for day in turning_days(house, book, rule, until):
        if not sits_on(book, day, sits):
            rows.append(row_of(house, book, rule, day, last))
            sits = rows[-1][1]
            last = last_behind(last, sits)
    return tuple(rows)


def row_of(house, book, rule, day, last):
    told = book_up_to(book, day)
    others = []
    for place in open_awaits(house, book, day):
        awaited = child_house(house, book, day, place)
        first, paper = first_and_paper(awaited, told, rule, day, last, -1)
        if first == len(awaited) - 1:
            return (day, -1, "waits", place, paper)
        others.append(paper)
    who, paper = first_and_paper(house, book, rule, day, last, -1)
    word = "nobody" if who == -1 else "sits"
    return (day, who, word, paper, tuple(others))
