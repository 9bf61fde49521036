"""The flux with the greatest worth or the greatest part of a goal, and the row that shows it."""

from stillhad.arithmetic import ENDLESS, NOUGHT, added, common_bottom, is_less, multiplied, placed, reduced, tops_over
from stillhad.books import change_of, within_of
from stillhad.lots import closed_from
from stillhad.rowsums import support_of
from stillhad.simplex import best_plan


def best_flux(book, wish, fill):
    """(flux, row): a flux by which the fill has the most as its worth, and a price row that tells it.

    If the most is endless, the row is None, and the flux lowers no ware and adds to the worth.
    All deeds of the flux are within the closed lot from the support of the fill.
    """
    return best_flux_in(book, wish, fill, closed_from(book, support_of(fill)))


def best_flux_in(book, wish, fill, lot):
    """As best_flux, but with the deeds within the closed lot, which holds the support of the fill."""
    inside = within_of(book, lot)
    bottom = common_bottom(fill)
    amounts = tops_over(fill, bottom)
    limits = [amounts[ware] for ware in lot]
    gains = [gain_by(book, wish, deed) for deed in inside]
    bounded, times, prices = best_plan(uses_in(book, lot, inside), limits, gains)
    flux = placed(len(book[1]), inside, [multiplied(many, (1, bottom)) for many in times])
    if not bounded:
        return (flux, None)
    return (flux, row_with(wish, lot, prices))


def goal_plan(book, fill, goal):
    """(stretch, flux, row): the greatest quotient such that the goal times it follows, endless if there is none.

    If the goal follows, by the flux the fill comes to the goal at least, and the row is None. If not, the
    flux is None, and the row never rises and tells more at the goal than at the fill.
    """
    lot = closed_from(book, support_of(fill))
    bare = (0,) * book[0]
    if not all([ware in lot for ware in support_of(goal)]):
        return (NOUGHT, None, row_with(bare, lot, [NOUGHT] * len(lot)))
    inside = within_of(book, lot)
    bottom = common_bottom(fill + goal)
    amounts = tops_over(fill, bottom)
    aims = tops_over(goal, bottom)
    uses = [[aims[ware]] + own for ware, own in zip(lot, uses_in(book, lot, inside))]
    limits = [amounts[ware] for ware in lot]
    bounded, plan, prices = best_plan(uses, limits, [1] + [0] * len(inside))
    stretch = plan[0]
    if bounded and is_less(stretch, (1, 1)):
        return (stretch, None, row_with(bare, lot, prices))
    # What leads to the goal times the stretch, divided by it, leads to the goal.
    times = [reduced(many[0] * stretch[1], many[1] * stretch[0] * bottom) for many in plan[1:]]
    return (stretch if bounded else ENDLESS, placed(len(book[1]), inside, times), None)


def gain_by(book, wish, deed):
    """What the deed, done once, adds to the worth."""
    return sum([change * number for change, number in zip(change_of(book, deed), wish)])


def uses_in(book, lot, inside):
    """For each ware of the lot what each of these deeds takes of it more than it gives."""
    changes = [change_of(book, deed) for deed in inside]
    return [[-change[ware] for change in changes] for ware in lot]


def row_with(wish, lot, prices):
    """The row that is at each ware of the lot this price above the wish, and endless elsewhere.

    Outside a closed lot endless prices bar no deed, and where nothing is they cost nothing.
    """
    row = [ENDLESS] * len(wish)
    for ware, price in zip(lot, prices):
        row[ware] = added(price, (wish[ware], 1))
    return tuple(row)
