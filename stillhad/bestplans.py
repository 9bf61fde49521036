"""The flux with the greatest worth, and the price row that tells it."""

from stillhad.arithmetic import ENDLESS, NOUGHT, added, common_bottom, multiplied, tops_over
from stillhad.books import change_of, within_of
from stillhad.lots import closed_from
from stillhad.rowsums import support_of
from stillhad.simplex import best_plan


def best_flux(book, wish, fill):
    """(flux, row): a flux by which the fill has the most as its worth, and a price row that tells it.

    If the most is endless, the row is None, and the flux lowers no ware and adds to the worth.
    All deeds of the flux are within the closed lot from the support of the fill.
    """
    lot = closed_from(book, support_of(fill))
    inside = within_of(book, lot)
    bottom = common_bottom(fill)
    amounts = tops_over(fill, bottom)
    limits = [amounts[ware] for ware in lot]
    gains = [gain_by(book, wish, deed) for deed in inside]
    bounded, times, prices = best_plan(uses_in(book, lot, inside), limits, gains)
    flux = flux_with(len(book[1]), inside, [multiplied(many, (1, bottom)) for many in times])
    if not bounded:
        return (flux, None)
    return (flux, row_with(wish, lot, prices))


def gain_by(book, wish, deed):
    """What the deed, done once, adds to the worth."""
    return sum([change * number for change, number in zip(change_of(book, deed), wish)])


def uses_in(book, lot, inside):
    """For each ware of the lot what each of these deeds takes of it more than it gives."""
    changes = [change_of(book, deed) for deed in inside]
    return [[-change[ware] for change in changes] for ware in lot]


def flux_with(many, inside, times):
    """The flux of so many deeds that has these times at these deeds, and nought elsewhere."""
    flux = [NOUGHT] * many
    for deed, often in zip(inside, times):
        flux[deed] = often
    return tuple(flux)


def row_with(wish, lot, prices):
    """The row that is at each ware of the lot this price above the wish, and endless elsewhere.

    Outside a closed lot endless prices bar no deed, and where nothing is they cost nothing.
    """
    row = [ENDLESS] * len(wish)
    for ware, price in zip(lot, prices):
        row[ware] = added(price, (wish[ware], 1))
    return tuple(row)
