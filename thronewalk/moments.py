"""Who sits behind each news of one day."""

from thronewalk.news import book_up_to
from thronewalk.reigns import comes_to_sit, seat_at
from thronewalk.thrones import last_behind, sits_on


def moments(house, book, rule, day, news):
    sits, last = seat_at(house, book, rule, day - 1)
    before = book_up_to(book, day - 1)
    told = []
    for many in range(1, len(news) + 1):
        so_far = tuple(sorted(before + news[:many]))
        if not sits_on(so_far, day, sits):
            sits = comes_to_sit(house, so_far, rule, day, last)
            last = last_behind(last, sits)
        told.append(sits)
    return tuple(told)
