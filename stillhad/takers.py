"""Heard deeds, and books in which what they take is taken once."""

from stillhad.arithmetic import sum_of
from stillhad.books import end_wares, takers_of
from stillhad.judging import need_fill
from stillhad.mosts import most_of
from stillhad.traps import touches
from stillhad.wishes import above_of, unit_wish, wished_wares


def heard_deeds(book, wish):
    """The lot of deeds that give a wished ware or one that a heard deed takes."""
    wares = wished_wares(book, wish)
    heard = givers_among(book, wares)
    now = ()
    while heard != now:
        now = heard
        taken = [ware for deed in now for ware in above_of(book[1][deed][0])]
        heard = givers_among(book, list(wares) + taken)
    return heard


def givers_among(book, wares):
    """The lot of deeds that give one of the wares."""
    return tuple([place for place, deed in enumerate(book[1]) if touches(deed[1], wares)])


def one_taker(book, wish):
    """Whether no ware that a heard deed takes is taken by another deed."""
    heard = heard_deeds(book, wish)
    return all([takers_of(book, ware) == (deed,) for deed in heard for ware in above_of(book[1][deed][0])])


def end_mosts(book, fill):
    """For each end ware the most for the wish that is 1 at it and 0 elsewhere."""
    need_fill(book, fill)
    return tuple([most_of(book, unit_wish(book, ware), fill) for ware in end_wares(book)])


def had_together(book, fill):
    """Whether the mosts for single end wares, added, are the most for all of them."""
    mosts = end_mosts(book, fill)
    if mosts == ():
        return True
    ends = end_wares(book)
    wish = tuple([1 if ware in ends else 0 for ware in range(book[0])])
    return sum_of(mosts) == most_of(book, wish, fill)
