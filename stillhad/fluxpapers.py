"""Fluxes as papers of the most: so much can be had."""

from stillhad.arithmetic import as_quotients, quotients_over, total
from stillhad.bestplans import best_flux
from stillhad.books import is_within
from stillhad.errors import InvalidPaper
from stillhad.judging import is_pair, need, need_fill
from stillhad.kinds import is_fill
from stillhad.openings import lets_opening, opening_of
from stillhad.rowsums import support_of
from stillhad.stepping import amounts_by, lacking_in
from stillhad.wishes import is_wish


def flux_paper(book, wish, fill):
    """Any pair of an opening and a flux by which the fill has the most as its worth, None if that is endless."""
    need(is_wish(book, wish), "wish")
    need_fill(book, fill)
    flux, row = best_flux(book, wish, fill)
    if row is None:
        return None
    return (opening_of(book, support_of(fill)), flux)


def lets_flux(book, wish, fill, thing):
    """Check that thing is a pair of an opening and a flux by which the fill lacks nowhere; the worth by it."""
    need(is_wish(book, wish), "wish")
    need_fill(book, fill)
    check_opened(book, fill, thing)
    bottom, amounts = amounts_by(book, fill, thing[1])
    lacking = lacking_in(amounts)
    if lacking != ():
        raise InvalidPaper("lacks", lacking[0])
    return total(as_quotients(wish), quotients_over(amounts, bottom))


def check_opened(book, fill, thing):
    """Check that thing is a pair of an opening of the fill's support and a flux within the closed lot from it."""
    if not is_pair(thing):
        raise InvalidPaper("shape", -1)
    opening, flux = thing
    check_within(book, fill, opening, flux)


def check_within(book, fill, opening, flux):
    """Check an opening of the fill's support, and a flux within the closed lot from it."""
    lot = lets_opening(book, support_of(fill), opening)
    if not is_fill(len(book[1]), flux):
        raise InvalidPaper("flux", -1)
    for deed in support_of(flux):
        if not is_within(book[1][deed][0], lot):
            raise InvalidPaper("within", deed)
