"""Runs that end with as much as is asked for."""

from stillhad.arithmetic import NOUGHT, as_quotients, is_less, total
from stillhad.bestplans import best_flux
from stillhad.errors import TooMuch
from stillhad.judging import need, need_fill
from stillhad.kinds import is_quotient
from stillhad.openings import opening_run
from stillhad.quotients import minus, over
from stillhad.rowsums import fill_times
from stillhad.runkinds import run_times
from stillhad.running import end_of
from stillhad.stepping import fill_by
from stillhad.straights import straight_run
from stillhad.wishes import is_wish


def run_for(book, wish, fill, worth):
    """Any run that can be done at the fill and whose end has at least this worth."""
    need(is_wish(book, wish), "wish")
    need_fill(book, fill)
    need(is_quotient(worth), "worth")
    begin = total(as_quotients(wish), fill)
    if not is_less(begin, worth):
        return ()
    flux, row = best_flux(book, wish, fill)
    if row is None:
        often = over(minus(worth, begin), gain_of(book, wish, flux))
        return opened_run(book, fill, (1, 1), fill_times(flux, often))
    most = total(row, fill)
    if not is_less(worth, most):
        raise TooMuch(most)
    # Short of the whole flux, by the part that may be missing at the end, nothing is used up: where
    # the flux would leave nought, that part of what stands behind an opening is left.
    part = over(minus(most, worth), most)
    return opened_run(book, fill, part, fill_times(flux, minus((1, 1), part)))


def gain_of(book, wish, flux):
    """What the flux, which lowers no ware, adds to the worth."""
    nothing = (NOUGHT,) * book[0]
    return total(as_quotients(wish), fill_by(book, nothing, flux))


def opened_run(book, fill, part, flux):
    """A run that does this part of an opening run, and then the flux, which is straight by then."""
    ahead = run_times(book, opening_run(book, fill, (1, 1)), part)
    return ahead + straight_run(book, end_of(book, fill, ahead), flux)
