"""Arithmetic of quotients and prices."""

from stillhad.arithmetic import added, is_less, multiplied, reduced
from stillhad.judging import is_above, is_whole, need
from stillhad.kinds import is_number, is_price, is_quotient


def quotient_of(top, bottom):
    """The quotient that stands for top / bottom."""
    need(is_number(top), "top")
    need(is_whole(bottom), "bottom")
    return reduced(top, bottom)


def plus(one, other):
    """The sum of two prices."""
    need(is_price(other), "other")
    return added(one, other)


def product(one, other):
    """The product of two prices."""
    need(is_price(other), "other")
    return multiplied(one, other)


def minus(one, other):
    """The quotient one less the quotient other, which is not above it."""
    need(is_quotient(other) and not is_less(one, other), "other")
    return reduced(one[0] * other[1] - other[0] * one[1], one[1] * other[1])


def over(one, other):
    """The price one divided by the quotient other, which is above nought."""
    need(is_above(other), "other")
    return multiplied(one, (other[1], other[0]))


def less(one, other):
    """Whether the price one is below the price other."""
    need(is_price(other), "other")
    return is_less(one, other)
