"""Fluxes as papers of an endless most: they lower no ware and add to the worth."""

from stillhad.arithmetic import NOUGHT, as_quotients, quotients_over, total
from stillhad.bestplans import best_flux
from stillhad.errors import InvalidPaper
from stillhad.fluxpapers import check_opened
from stillhad.judging import need, need_fill
from stillhad.openings import opening_of
from stillhad.rowsums import support_of
from stillhad.stepping import amounts_by, lacking_in
from stillhad.wishes import is_wish


def endless_paper(book, wish, fill):
    """Any pair of an opening and a flux that lowers no ware and adds to the worth, None if the most is a quotient."""
    need(is_wish(book, wish), "wish")
    need_fill(book, fill)
    flux, row = best_flux(book, wish, fill)
    if row is not None:
        return None
    return (opening_of(book, support_of(fill)), flux)


def lets_endless(book, wish, fill, thing):
    """Check that thing is a pair of an opening and such a flux; what it adds to the worth."""
    need(is_wish(book, wish), "wish")
    need_fill(book, fill)
    check_opened(book, fill, thing)
    bottom, changes = amounts_by(book, (NOUGHT,) * book[0], thing[1])
    lowered = lacking_in(changes)
    if lowered != ():
        raise InvalidPaper("lowers", lowered[0])
    gain = total(as_quotients(wish), quotients_over(changes, bottom))
    if gain == NOUGHT:
        raise InvalidPaper("gain", -1)
    return gain
