"""What is a number, a quotient, a price, a fill, a row, a lot."""

from math import gcd


def is_integer(thing):
    """Whether thing is an integer: an int that is not a bool."""
    return isinstance(thing, int) and not isinstance(thing, bool)


def is_number(thing):
    """Whether thing is an integer that is at least 0."""
    return is_integer(thing) and thing >= 0


def is_quotient(thing):
    """Whether thing is a price that is not endless."""
    return is_price(thing) and thing[1] > 0


def is_price(thing):
    """Whether thing is a quotient in lowest terms, or endless."""
    if not (isinstance(thing, tuple) and len(thing) == 2):
        return False
    top, bottom = thing
    # With a bottom of 0 the divisor is the top itself, so only (1, 0) passes.
    return is_number(top) and is_number(bottom) and gcd(top, bottom) == 1


def is_fill(size, thing):
    """Whether thing is a tuple with a quotient for each of size wares."""
    return isinstance(thing, tuple) and len(thing) == size and all([is_quotient(amount) for amount in thing])


def is_row(size, thing):
    """Whether thing is a tuple with a price for each of size wares."""
    return isinstance(thing, tuple) and len(thing) == size and all([is_price(price) for price in thing])


def is_lot(size, thing):
    """Whether thing is an ascending tuple of numbers below size."""
    return is_ascending(thing) and (thing == () or thing[-1] < size)


def is_ascending(thing):
    """Whether thing is an ascending tuple of numbers."""
    if not (isinstance(thing, tuple) and all([is_number(ware) for ware in thing])):
        return False
    return all([low < high for low, high in zip(thing, thing[1:])])
