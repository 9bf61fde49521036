"""Where a row tells less than others, or which mixture of the others is nowhere above it."""

from stillhad.arithmetic import ENDLESS, added, common_bottom, is_less, multiplied, placed, sum_of, tops_over
from stillhad.quotients import minus, over
from stillhad.rowsums import open_of
from stillhad.simplex import best_plan


def undercut(row, others):
    """(mixture, None): a mixture of the other rows that is nowhere above the row; if there is none, (None, fill).

    At the fill, with just the row's open things above nought, the row tells less than each other one.
    """
    things = open_of(row)
    able = [place for place, other in enumerate(others) if all([other[thing] != ENDLESS for thing in things])]
    parts = [[others[place][thing] for thing in things] for place in able]
    gains = [common_bottom(part) for part in parts]
    columns = [tops_over(part, gain) for part, gain in zip(parts, gains)]
    own = [row[thing] for thing in things]
    bottom = common_bottom(own)
    lines = [[column[k] for column in columns] for k in range(len(things))]
    bounded, plan, prices = best_plan(lines, tops_over(own, bottom), gains)
    weights = [multiplied(part, (gain, bottom)) for part, gain in zip(plan, gains)]
    weight = sum_of(weights)
    if bounded and is_less(weight, (1, 1)):
        return (None, placed(len(row), things, with_grains(prices, own, weight)))
    # So much of the others is nowhere above the row, so a whole mixture, which is less of them, isn't either.
    return (placed(len(others), able, [over(part, weight) for part in weights]), None)


def with_grains(amounts, own, told):
    """The amounts, of each a little more, at which the own prices still tell less than 1; before, they told this."""
    grain = over(minus((1, 1), told), added((1, 1), sum_of(own)))
    return [added(amount, grain) for amount in amounts]
