"""What it costs to bring the most to a worth."""

from stillhad.arithmetic import NOUGHT, common_bottom, is_less, multiplied, placed, reduced, tops_over, total
from stillhad.errors import OutOfReach
from stillhad.judging import need, need_fill
from stillhad.kinds import is_quotient, is_row
from stillhad.quotients import minus
from stillhad.rowsums import is_open_at, lots_together, open_of, support_of
from stillhad.simplex import best_plan
from stillhad.tariffs import tariff_of
from stillhad.wishes import is_wish


def least_cost(book, wish, fill, worth, costs):
    """The greatest lower bound of the costs of additions that bring the most to the worth."""
    return total(costs, bought_for(book, wish, fill, worth, costs))


def bought_for(book, wish, fill, worth, costs):
    """Any additions of just the least cost with which each row that binds tells at least the worth."""
    return buying_plan(book, wish, fill, worth, costs)[1]


def need_costs(book, wish, fill, worth, costs):
    """Refuse a wish, a fill, a worth and costs that are not as stated."""
    need(is_wish(book, wish), "wish")
    need_fill(book, fill)
    need(is_quotient(worth), "worth")
    need(is_row(book[0], costs), "costs")


def lacking_rows(rows, fill, worth, costs):
    """A list of the places of the rows that bind and tell less than the worth at the fill."""
    things = lots_together(support_of(fill), open_of(costs))
    return [k for k, row in enumerate(rows) if is_open_at(row, things) and is_less(total(row, fill), worth)]


def buying_plan(book, wish, fill, worth, costs):
    """(quotients, additions): additions of the least cost, and quotients for the tariff's rows that show it."""
    need_costs(book, wish, fill, worth, costs)
    rows = tariff_of(book, wish)
    lacking = lacking_rows(rows, fill, worth, costs)
    bought = open_of(costs)
    for k in lacking:
        if all([rows[k][ware] == NOUGHT for ware in bought]):
            raise OutOfReach(rows[k])
    parts = [[minus(worth, total(rows[k], fill))] + [rows[k][ware] for ware in bought] for k in lacking]
    bottoms = [common_bottom(part) for part in parts]
    columns = [tops_over(part, bottom) for part, bottom in zip(parts, bottoms)]
    lines = [[column[k + 1] for column in columns] for k in range(len(bought))]
    own = [costs[ware] for ware in bought]
    whole = common_bottom(own)
    # Each row that lacks tells something of a ware that can be bought, so the costs bound the quotients.
    plan, prices = best_plan(lines, tops_over(own, whole), [column[0] for column in columns])[1:]
    quotients = [multiplied(one, reduced(bottom, whole)) for one, bottom in zip(plan, bottoms)]
    return (placed(len(rows), lacking, quotients), placed(book[0], bought, prices))
