"""Spots: fills at which one row tells less than all others."""

from stillhad.arithmetic import is_less, least_price, total
from stillhad.errors import InvalidPaper
from stillhad.judging import is_place, need
from stillhad.kinds import is_fill
from stillhad.quotients import minus
from stillhad.rowsums import open_of, support_of
from stillhad.undercuts import undercut


def spot_of(rows, place):
    """Any spot of the row at place, None if that row is needless."""
    need(is_place(len(rows), place), "place")
    return undercut(rows[place], rows[:place] + rows[place + 1:])[1]


def lets_spot(rows, place, thing):
    """Check that thing is a spot of the row at place; the least of the others there, less what that row tells."""
    need(is_place(len(rows), place), "place")
    row = rows[place]
    if not is_fill(len(row), thing):
        raise InvalidPaper("fill", -1)
    if support_of(thing) != open_of(row):
        raise InvalidPaper("support", -1)
    told = total(row, thing)
    others = []
    for k, other in enumerate(rows):
        if k == place:
            continue
        others.append(total(other, thing))
        if not is_less(told, others[-1]):
            raise InvalidPaper("least", k)
    least = least_price(others)
    return least if least[1] == 0 else minus(least, told)
