"""Papers of least costs: so much has to be paid."""

from stillhad.arithmetic import NOUGHT, is_less, multiplied, sum_of, total
from stillhad.buying import buying_plan, lacking_rows, need_costs
from stillhad.errors import InvalidPaper
from stillhad.kinds import is_fill
from stillhad.quotients import minus
from stillhad.rowsums import open_of
from stillhad.tariffs import tariff_of


def cost_paper(book, wish, fill, worth, costs):
    """Any quotients for the rows of the tariff for which lets_cost returns the least cost."""
    return buying_plan(book, wish, fill, worth, costs)[0]


def lets_cost(book, wish, fill, worth, costs, thing):
    """Check that thing is such a tuple of quotients; a cost that all additions have at least."""
    need_costs(book, wish, fill, worth, costs)
    rows = tariff_of(book, wish)
    if not is_fill(len(rows), thing):
        raise InvalidPaper("shape", -1)
    lacking = lacking_rows(rows, fill, worth, costs)
    for k, quotient in enumerate(thing):
        if quotient != NOUGHT and k not in lacking:
            raise InvalidPaper("row", k)
    for ware in open_of(costs):
        if is_less(costs[ware], total([row[ware] for row in rows], thing)):
            raise InvalidPaper("above", ware)
    return sum_of([multiplied(thing[k], minus(worth, total(rows[k], fill))) for k in lacking])
