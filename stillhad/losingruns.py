"""Runs by which nearly all but the sure share of the most is lost."""

from stillhad.arithmetic import added, is_less, multiplied, sum_of
from stillhad.bookchanges import turned_about
from stillhad.closings import closing_run
from stillhad.errors import InvalidPaper
from stillhad.judging import is_above, is_pair, need, need_hands
from stillhad.kinds import is_fill
from stillhad.losings import mosts_by
from stillhad.quotients import over
from stillhad.rowsums import open_of, support_of
from stillhad.runkinds import flux_of, is_run
from stillhad.running import stuck_at
from stillhad.sandwichplans import best_sandwich, book_of_hands
from stillhad.shares import sure_share
from stillhad.stepping import fill_by
from stillhad.straights import straight_run
from stillhad.tariffs import tariff_of
from stillhad.wishes import is_wish


def losing_run(book, wish, hands, near):
    """Any pair (fill, run): the run of the hands leaves at most the sure share, and near, of the most."""
    need(is_wish(book, wish), "wish")
    need_hands(book, hands)
    need(is_above(near), "near")
    rows = tariff_of(book, wish)
    if rows == ():
        return None
    least = None
    for place in range(len(rows)):
        sandwich, flux, end = best_sandwich(book, hands, rows, place)
        share = sum_of(sandwich[0])
        if least is None or is_less(share, least[0]):
            least = (share, rows[place], flux, end)
    share, row, flux, end = least
    own = book_of_hands(book, hands)
    begin, run = run_down(own, row, tuple([flux[deed] for deed in hands]), end, near)
    return (begin, tuple([(turns, tuple([(hands[deed], times) for deed, times in steps])) for turns, steps in run]))


def run_down(book, row, flux, end, near):
    """(fill, run): the run does the flux, and more, and ends a little above the end, where the row tells near more.

    The end is made a little more where the row is open. A closing leads just there, from a fill at which
    all is above nought that can be; and there the flux, which is straight by then, leads.
    """
    grain = over(near, added((1, 1), sum_of([row[thing] for thing in open_of(row)])))
    last = tuple([added(amount, grain) if price[1] > 0 else amount for amount, price in zip(end, row)])
    middle, closing = closing_run(book, last, multiplied(grain, (1, 2)))
    begin = fill_by(turned_about(book), middle, flux)
    return (begin, straight_run(book, begin, flux) + closing)


def lets_losing(book, wish, hands, near, thing):
    """Check that thing is such a pair (fill, run); (most before, most behind)."""
    need(is_wish(book, wish), "wish")
    need_hands(book, hands)
    need(is_above(near), "near")
    if not is_pair(thing):
        raise InvalidPaper("shape", -1)
    fill, run = thing
    check_done(book, hands, fill, run)
    before, behind = mosts_by(book, wish, fill, run)
    if before[0] == 0 or behind[1] == 0:
        raise InvalidPaper("most", -1)
    bound = multiplied(before, added(near, sure_share(book, wish, hands)))
    if is_less(bound, behind):
        raise InvalidPaper("near", -1)
    return (before, behind)


def check_done(book, hands, fill, run):
    """Check that the run can be done at the fill and does deeds of hands alone."""
    if not is_fill(book[0], fill):
        raise InvalidPaper("fill", -1)
    if not is_run(book, run):
        raise InvalidPaper("run", -1)
    for deed in support_of(flux_of(book, run)):
        if deed not in hands:
            raise InvalidPaper("hands", deed)
    if stuck_at(book, fill, run) is not None:
        raise InvalidPaper("stuck", -1)
