"""Sums, factors and comparisons of rows and of fills."""

from stillhad.arithmetic import ENDLESS, added, is_less, multiplied, reduced, total
from stillhad.judging import need
from stillhad.kinds import is_fill, is_quotient, is_row


def all_added(one, other):
    """The sums at each place."""
    return tuple([added(price, more) for price, more in zip(one, other)])


def all_times(one, factor):
    """The products with the factor at each place."""
    return tuple([multiplied(price, factor) for price in one])


def nowhere_above(one, other):
    """Whether one is at no place above other."""
    return first_above(one, other) is None


def first_above(one, other):
    """The first place at which one is above other, None if there is none."""
    for place, (price, bound) in enumerate(zip(one, other)):
        if is_less(bound, price):
            return place
    return None


def priced(row, fill):
    """What the row tells at the fill."""
    need(is_fill(len(row), fill), "fill")
    return total(row, fill)


def row_plus(row, other):
    """The sum of two rows."""
    need(is_row(len(row), other), "other")
    return all_added(row, other)


def row_times(row, factor):
    """The row times the factor."""
    need(is_quotient(factor), "factor")
    return all_times(row, factor)


def row_below(row, other):
    """Whether the row is nowhere above the other one."""
    need(is_row(len(row), other), "other")
    return nowhere_above(row, other)


def row_mixed(rows, weights):
    """The sum of the rows, each times its weight."""
    need(is_fill(len(rows), weights), "weights")
    mixed = all_times(rows[0], weights[0])
    for row, weight in zip(rows[1:], weights[1:]):
        mixed = all_added(mixed, all_times(row, weight))
    return mixed


def open_of(row):
    """The lot of things at which the row is open."""
    return tuple([ware for ware, price in enumerate(row) if price != ENDLESS])


def support_of(fill):
    """The lot of things at which the fill is above nought."""
    return tuple([ware for ware, amount in enumerate(fill) if amount[0] > 0])


def lots_together(lot, other):
    """The lot of all things of both lots."""
    return tuple(sorted(set(lot + other)))


def is_open_at(row, lot):
    """Whether the row is open at all things of the lot."""
    return all([row[thing] != ENDLESS for thing in lot])


def fill_plus(fill, other):
    """The sum of two fills."""
    need(is_fill(len(fill), other), "other")
    return all_added(fill, other)


def fill_minus(fill, other):
    """The fill less the other one, which is nowhere above it."""
    need(is_fill(len(fill), other) and nowhere_above(other, fill), "other")
    return tuple([
        reduced(have[0] * gone[1] - gone[0] * have[1], have[1] * gone[1]) for have, gone in zip(fill, other)])


def fill_times(fill, factor):
    """The fill times the factor."""
    need(is_quotient(factor), "factor")
    return all_times(fill, factor)


def fill_below(fill, other):
    """Whether the fill is nowhere above the other one."""
    need(is_fill(len(fill), other), "other")
    return nowhere_above(fill, other)
