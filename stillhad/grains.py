"""What the least grain of some wares adds to the most."""

from stillhad.arithmetic import ENDLESS, total
from stillhad.bestplans import best_flux_in
from stillhad.judging import need, need_fill, need_lot, need_ware
from stillhad.lots import closed_from
from stillhad.mosts import most_of
from stillhad.quotients import minus
from stillhad.rowsums import lots_together, support_of
from stillhad.wishes import is_wish


def grain_of(book, wish, fill, ware):
    """What any grain of the ware adds to the most at least; None if that is endless, endless if it becomes so."""
    need(is_wish(book, wish), "wish")
    need_fill(book, fill)
    need_ware(book, ware)
    most = most_of(book, wish, fill)
    if most == ENDLESS:
        return None
    bound = grained_most(book, wish, fill, (ware,))
    return ENDLESS if bound == ENDLESS else minus(bound, most)


def grained_most(book, wish, fill, lot):
    """The greatest lower bound of the mosts with any grain of each ware of the lot added, a price."""
    need(is_wish(book, wish), "wish")
    need_fill(book, fill)
    need_lot(book, lot)
    # Grains as small as is wished open what they open, and bring no more than nought.
    opened = closed_from(book, lots_together(support_of(fill), lot))
    row = best_flux_in(book, wish, fill, opened)[1]
    return ENDLESS if row is None else total(row, fill)
