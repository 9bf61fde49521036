"""Single steps, and the fill by a flux."""

from stillhad.arithmetic import common_bottom, least_price, quotients_over, reduced, tops_over
from stillhad.errors import Stuck
from stillhad.judging import is_above, need, need_deed, need_fill, need_flux


def can_do(book, fill, deed):
    """Whether the deed can be done at the fill."""
    need_fill(book, fill)
    need_deed(book, deed)
    return all([number == 0 or amount[0] > 0 for number, amount in zip(book[1][deed][0], fill)])


def most_times(book, fill, deed):
    """The greatest times with which the deed can be done, a price."""
    need_fill(book, fill)
    need_deed(book, deed)
    take = book[1][deed][0]
    return least_price([
        reduced(amount[0], amount[1] * number) for number, amount in zip(take, fill) if number > 0])


def after_step(book, fill, deed, times):
    """The fill behind the step (deed, times)."""
    need_fill(book, fill)
    need_deed(book, deed)
    need(is_above(times), "times")
    bottom = common_bottom((*fill, times))
    amounts = tops_over(fill, bottom)
    many = tops_over((times,), bottom)[0]
    take, give = book[1][deed]
    if any([amount < many * number for amount, number in zip(amounts, take)]):
        raise Stuck(0, 0, 0)
    behind = [amount + many * (more - gone) for amount, gone, more in zip(amounts, take, give)]
    return quotients_over(behind, bottom)


def fill_by(book, fill, flux):
    """The fill by the flux, None if it lacks."""
    need_fill(book, fill)
    need_flux(book, flux)
    bottom, amounts = amounts_by(book, fill, flux)
    if lacking_in(amounts) != ():
        return None
    return quotients_over(amounts, bottom)


def amounts_by(book, fill, flux):
    """A bottom, and over it what the flux makes of each amount, be it below nought."""
    bottom = common_bottom(fill + flux)
    amounts = tops_over(fill, bottom)
    for (take, give), many in zip(book[1], tops_over(flux, bottom)):
        amounts = [amount + many * (more - gone) for amount, gone, more in zip(amounts, take, give)]
    return (bottom, amounts)


def lacking_in(amounts):
    """The lot of wares at which the amounts are below nought."""
    return tuple([ware for ware, amount in enumerate(amounts) if amount < 0])
