"""The best sandwich for a row of a tariff, and how the hands bring fills down to it."""

from stillhad.arithmetic import ENDLESS, common_bottom, multiplied, placed, tops_over
from stillhad.rowsums import open_of
from stillhad.simplex import best_plan
from stillhad.traps import others, touches, trap_within


def book_of_hands(book, hands):
    """The book of the deeds of hands alone."""
    return (book[0], tuple([book[1][deed] for deed in hands]))


def best_sandwich(book, hands, rows, place):
    """((weights, row), flux, end): a sandwich with the greatest sum for the row at place, by hands.

    Some fill at which each row of rows tells at least 1 comes by the flux, which has nought for each
    deed but those of hands, to the end, at which the row at place tells just that sum.
    """
    # The lot where the sandwich's row is endless must be a trap for the hands: of these the greatest
    # one bars least.
    trap = trap_within(book_of_hands(book, hands), others(book[0], open_of(rows[place])))
    wares = others(book[0], trap)
    things = open_of(rows[place])
    able = [k for k, one in enumerate(rows) if all([one[ware] != ENDLESS for ware in wares])]
    calm = [deed for deed in hands if not touches(book[1][deed][1], trap)]
    gains = [common_bottom([rows[k][ware] for ware in wares]) for k in able]
    columns = [tops_over([rows[k][ware] for ware in wares], gain) for k, gain in zip(able, gains)]
    bottom = common_bottom([rows[place][ware] for ware in things])
    tops = tops_over([rows[place][ware] for ware in things], bottom)
    lines = below_lines(columns, len(wares)) + [
        [0] * len(able) + line for line in fall_lines(book, calm, wares) + bound_lines(things, wares)]
    limits = [0] * (len(wares) + len(calm)) + tops
    # No mixture of rows is below a sharp row but itself, so the sum has a bound, and there are prices.
    plan, prices = best_plan(lines, limits, gains + [0] * len(wares))[1:]
    weights = [multiplied(part, (gain, bottom)) for part, gain in zip(plan, gains)]
    row = [ENDLESS] * book[0]
    for at, price in zip(wares, plan[len(able):]):
        row[at] = multiplied(price, (1, bottom))
    flux = placed(len(book[1]), calm, prices[len(wares):])
    end = placed(book[0], things, prices[len(wares) + len(calm):])
    return ((placed(len(rows), able, weights), tuple(row)), flux, end)


def below_lines(columns, many):
    """For each of so many wares: what the rows, each times its weight, have there, less the sandwich's price."""
    return [[column[k] for column in columns] + [-1 if at == k else 0 for at in range(many)] for k in range(many)]


def fall_lines(book, deeds, wares):
    """For each of the deeds what the sandwich's row would tell less at its give than at its take."""
    lines = []
    for deed in deeds:
        take, give = book[1][deed]
        lines.append([take[ware] - give[ware] for ware in wares])
    return lines


def bound_lines(things, wares):
    """For each of the things the sandwich's price there."""
    return [[1 if ware == thing else 0 for ware in wares] for thing in things]
