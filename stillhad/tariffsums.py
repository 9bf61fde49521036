"""Sums and parts of tariffs."""

from stillhad.judging import is_above, need
from stillhad.rowsums import all_added, all_times
from stillhad.tariffkinds import is_any_tariff, is_lot_for, is_tariff_like
from stillhad.trimming import trimmed


def trimmed_of(rows):
    """The trimmed tariff of a list of rows in any sequence, some maybe more than once."""
    return trimmed(tuple(sorted(set(rows))))


def tariff_plus(rows, other):
    """The trimmed tariff whose least is the sum of both leasts."""
    need(is_tariff_like(rows, other), "other")
    return trimmed_of([all_added(row, its) for row in rows for its in other])


def tariff_less(rows, other):
    """The trimmed tariff whose least is the less of both leasts."""
    need(is_tariff_like(rows, other), "other")
    return trimmed_of(list(rows + other))


def tariff_times(rows, factor):
    """The trimmed tariff whose least is that of rows times the factor."""
    need(is_above(factor), "factor")
    return trimmed_of([all_times(row, factor) for row in rows])


def tariff_beside(rows, other):
    """The trimmed tariff, over the things of both, whose least is the sum of both leasts."""
    need(is_any_tariff(other), "other")
    return trimmed_of([row + its for row in rows for its in other])


def cut_to(rows, lot):
    """The trimmed tariff over the things of the lot whose least is that of rows with nought elsewhere."""
    need(is_lot_for(rows, lot), "lot")
    return taken_to(rows, lot)


def taken_to(rows, things):
    """The trimmed tariff of what rows are at these things, in this sequence."""
    return trimmed_of([tuple([row[thing] for thing in things]) for row in rows])
