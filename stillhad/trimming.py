"""Needless rows, and tariffs without them."""

from stillhad.arithmetic import NOUGHT, least_price, sum_of, total
from stillhad.errors import InvalidPaper
from stillhad.judging import is_place, need
from stillhad.kinds import is_fill
from stillhad.rowsums import first_above, row_mixed
from stillhad.undercuts import undercut


def is_needless(rows, place):
    """Whether the least of the other rows is the same at all fills."""
    return mixture_of(rows, place) is not None


def mixture_of(rows, place):
    """Any mixture, nought at place, that is nowhere above the row there, None if that row is not needless."""
    need(is_place(len(rows), place), "place")
    mixture = undercut(rows[place], rows[:place] + rows[place + 1:])[0]
    if mixture is None:
        return None
    return mixture[:place] + (NOUGHT,) + mixture[place:]


def trimmed(rows):
    """The trimmed tariff whose least is that of rows everywhere."""
    found = []
    for row in rows:
        # Each row that is the least somewhere below this one is found on the way; if this one is still
        # the least somewhere by then, it is found itself.
        fill = undercut(row, found)[1]
        while fill is not None:
            found.append(first_told(rows, fill))
            fill = undercut(row, found)[1]
    return tuple(sorted(found))


def first_told(rows, fill):
    """A row that tells the least at the fill, and is alone in that at some fill.

    Of those that tell the least, some tell the least with a grain more of the first thing added, unless
    all are endless there; of these, some with a much smaller grain of the second one; and so on.
    """
    least = least_price([total(row, fill) for row in rows])
    left = [row for row in rows if total(row, fill) == least]
    for thing in range(len(fill)):
        low = least_price([row[thing] for row in left])
        left = [row for row in left if row[thing] == low]
    return left[0]


def lets_mixture(rows, place, thing):
    """Check that thing is a mixture, nought at place, that is nowhere above the row there; the mixed row."""
    need(is_place(len(rows), place), "place")
    if not is_fill(len(rows), thing):
        raise InvalidPaper("weights", -1)
    if thing[place] != NOUGHT:
        raise InvalidPaper("place", -1)
    if sum_of(thing) != (1, 1):
        raise InvalidPaper("sum", -1)
    mixed = row_mixed(rows, thing)
    above = first_above(mixed, rows[place])
    if above is not None:
        raise InvalidPaper("above", above)
    return mixed
