"""The most that can still be had."""

from stillhad.arithmetic import ENDLESS, total
from stillhad.bestplans import best_flux
from stillhad.judging import need, need_fill
from stillhad.wishes import is_wish


def most_of(book, wish, fill):
    """The most at the fill, a price."""
    need(is_wish(book, wish), "wish")
    need_fill(book, fill)
    row = best_flux(book, wish, fill)[1]
    return ENDLESS if row is None else total(row, fill)
