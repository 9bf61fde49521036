"""Deeds that lower the most, and mosts before and behind a run."""

from stillhad.arithmetic import ENDLESS, as_quotients, is_less, total
from stillhad.judging import need, need_hands
from stillhad.mosts import most_of
from stillhad.quotients import over
from stillhad.rights import unkept
from stillhad.rowsums import fill_plus, fill_times
from stillhad.running import end_of
from stillhad.spots import lets_spot, spot_of
from stillhad.tariffs import tariff_of
from stillhad.wishes import is_wish


def losing_deed(book, wish, hands):
    """Any pair (deed, fill) such that the deed of hands, done once, lowers the most; None if all are harmless."""
    need(is_wish(book, wish), "wish")
    need_hands(book, hands)
    for deed, place in unkept(book, wish):
        if deed in hands:
            return (deed, fill_before(book[1][deed], tariff_of(book, wish), place))
    return None


def fill_before(deed, rows, place):
    """A fill at which the deed, which does not keep the row at place of rows, can be done once and lowers the least.

    With so many spots of the row, and what the deed takes where the row is endless, the row tells less
    behind the deed than the least before it.
    """
    row = rows[place]
    spot = spot_of(rows, place)
    take, give = deed
    rest = tuple([(number, 1) if price == ENDLESS else (0, 1) for number, price in zip(take, row)])
    often = 1
    for number, amount in zip(take, spot):
        if amount[0] > 0:
            often = max(often, -(-number * amount[1] // amount[0]))
    gap = lets_spot(rows, place, spot)
    if is_less(gap, ENDLESS):
        more, below = over(total(row, as_quotients(give)), gap)
        often = max(often, more // below + 1)
    return fill_plus(fill_times(spot, (often, 1)), rest)


def mosts_by(book, wish, fill, run):
    """The pair (most at the fill, most behind the run)."""
    need(is_wish(book, wish), "wish")
    behind = end_of(book, fill, run)
    return (most_of(book, wish, fill), most_of(book, wish, behind))
