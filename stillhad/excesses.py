"""Where one module gives more than another one."""

from stillhad.arithmetic import NOUGHT, added, as_quotients, numbers_at, total
from stillhad.bestplans import gain_by, uses_in
from stillhad.books import change_of, within_of
from stillhad.cones import edges_of
from stillhad.lots import all_lots, closed_from
from stillhad.quotients import minus, over
from stillhad.simplex import best_plan


def excess(module, other):
    """Any (amounts, weights) at which the module's most is above that of other, with as many ins and outs, or None.

    What other gives, where just some ins are above nought, the edges of its rows that never rise bound;
    so the module gives more exactly if it breaks the bound of an edge.
    """
    for places in all_lots(len(module[1])):
        for costs, weights in bounds_on(other, places):
            amounts = amounts_beyond(module, places, costs, weights)
            if amounts is not None:
                return (amounts, weights)
    return None


def bounds_on(module, places):
    """Pairs (costs, weights), each once: with just the ins at these places above nought, costs tells the most or more.

    By all of them together the most for any weights is just bounded.
    """
    book, ins, outs = module
    lot = closed_from(book, tuple(sorted([ins[place] for place in places])))
    bounds = []
    for deed in within_of(book, lot):
        change = change_of(book, deed)
        bounds.append([-change[ware] for ware in lot])
    found = {}
    for edge in edges_of(len(lot), bounds):
        prices = {ware: price for ware, price in zip(lot, edge)}
        weights = tuple([prices.get(ware, 0) for ware in outs])
        if any([weight > 0 for weight in weights]):
            found[(tuple([prices.get(ware, 0) for ware in ins]), weights)] = True
    # Nothing comes to an out that is not in the lot.
    for door, ware in enumerate(outs):
        if ware not in lot:
            found[((0,) * len(ins), numbers_at(len(outs), {door: 1}))] = True
    return list(found)


def amounts_beyond(module, places, costs, weights):
    """Amounts, with just the ins at these places above nought, at which the most is above what costs tells, or None."""
    book, ins, outs = module
    wish = numbers_at(book[0], {ware: weight for ware, weight in zip(outs, weights)})
    lot = closed_from(book, tuple(sorted([ins[place] for place in places])))
    inside = within_of(book, lot)
    brought = [ins[place] for place in places]
    lines = [
        [-1 if ware == own else 0 for own in brought] + uses for ware, uses in zip(lot, uses_in(book, lot, inside))]
    gains = [-costs[place] for place in places] + [gain_by(book, wish, deed) for deed in inside]
    bounded, plan, prices = best_plan(lines, [0] * len(lot), gains)
    if bounded:
        return None
    # A grain of each of these ins costs less than what is gained.
    gain = gained(plan, gains)
    grain = over(gain, (1 + sum(costs), 1))
    amounts = [NOUGHT] * len(ins)
    for place, amount in zip(places, plan):
        amounts[place] = added(amount, grain)
    return tuple(amounts)


def gained(plan, gains):
    """The sum of the gains, some below 0, each times the plan's amount, which is above nought."""
    more = total(as_quotients([max(0, gain) for gain in gains]), plan)
    less_of = total(as_quotients([max(0, -gain) for gain in gains]), plan)
    return minus(more, less_of)
