"""Sums and products of prices, and of quotients over one bottom; nothing is judged here."""

from math import gcd, lcm

NOUGHT = (0, 1)
ENDLESS = (1, 0)


def reduced(top, bottom):
    """The price for top / bottom, which are not both 0."""
    divisor = gcd(top, bottom)
    return (top // divisor, bottom // divisor)


def added(one, other):
    """The sum of two prices."""
    if ENDLESS in (one, other):
        return ENDLESS
    return reduced(one[0] * other[1] + other[0] * one[1], one[1] * other[1])


def multiplied(one, other):
    """The product of two prices."""
    # Endless times nought is nought, which the bottoms alone would not tell.
    if NOUGHT in (one, other):
        return NOUGHT
    return reduced(one[0] * other[0], one[1] * other[1])


def is_less(one, other):
    """Whether the price one is below the price other."""
    return one[0] * other[1] < other[0] * one[1]


def least_price(prices):
    """The least of the prices, endless if there are none."""
    least = ENDLESS
    for price in prices:
        if is_less(price, least):
            least = price
    return least


def sum_of(prices):
    """The sum of the prices."""
    result = NOUGHT
    for price in prices:
        result = added(result, price)
    return result


def total(row, amounts):
    """The sum of price times amount, over all things."""
    return sum_of([multiplied(price, amount) for price, amount in zip(row, amounts)])


def as_quotients(numbers):
    """The numbers as quotients."""
    return tuple([(number, 1) for number in numbers])


def numbers_at(many, numbers):
    """So many numbers: at each place what numbers, a dict, has for it, 0 elsewhere."""
    return tuple([numbers.get(place, 0) for place in range(many)])


def placed(many, places, quotients):
    """So many quotients: these ones at these places, nought elsewhere."""
    result = [NOUGHT] * many
    for place, quotient in zip(places, quotients):
        result[place] = quotient
    return tuple(result)


def common_bottom(quotients):
    """The least bottom over which all the quotients can be written."""
    bottom = 1
    for quotient in quotients:
        bottom = lcm(bottom, quotient[1])
    return bottom


def tops_over(quotients, bottom):
    """The tops of the quotients, written over this common bottom."""
    return [top * (bottom // below) for top, below in quotients]


def quotients_over(tops, bottom):
    """The quotients of these tops over the bottom."""
    return tuple([reduced(top, bottom) for top in tops])
