"""The flow with the greatest worth in a wiring with tariffs, and the row that links to it."""

from stillhad.arithmetic import ENDLESS, NOUGHT, added, common_bottom, is_less, multiplied, sum_of, tops_over
from stillhad.judging import is_weights, need
from stillhad.kinds import is_fill
from stillhad.quotients import over
from stillhad.reachedwires import is_tariffs, places_on, reached_from
from stillhad.rowsums import all_times, support_of
from stillhad.simplex import best_plan


def need_links(wiring, tariffs, weights, fill):
    """Refuse tariffs, weights and a fill that are not as stated for the wiring."""
    need(is_tariffs(wiring, tariffs), "tariffs")
    need(is_weights(len(wiring[3]), weights), "weights")
    need(is_fill(wiring[0], fill), "fill")


def reached_at(wiring, tariffs, fill):
    """The lot of wires that are reached from the support of the fill."""
    return reached_from(wiring, tariffs, support_of(fill))


def counting(rows, in_wires, reached):
    """A list of the places of the rows that are endless at no reached in-place."""
    places = places_on(in_wires, reached)
    return [k for k, row in enumerate(rows) if all([row[place] != ENDLESS for place in places])]


def weight_at(wiring, weights):
    """A dict of the weight of each out's wire."""
    return {wire: weight for wire, weight in zip(wiring[3], weights)}


def link_plan(wiring, tariffs, weights, fill):
    """(paper, flow): a flow with the greatest worth, and a pair (row, quotients) that links and tells this worth.

    If no worth is the greatest, the paper is None, and by the flow of no wire more is taken than it gets,
    and something is gained.
    """
    reached = reached_at(wiring, tariffs, fill)
    seats = wiring[1]
    takes = [(k, place) for k, seat in enumerate(seats) for place in places_on(seat[0], reached)]
    gives = [(k, door) for k, seat in enumerate(seats) for door in places_on(seat[1], reached)]
    marks, lines = row_lines(wiring, tariffs, reached, takes, gives)
    bottom = common_bottom(fill)
    amounts = tops_over(fill, bottom)
    limits = [amounts[wire] for wire in reached] + [0] * len(lines)
    at_out = weight_at(wiring, weights)
    gains = [0] * len(takes) + [at_out.get(seats[k][1][door], 0) for k, door in gives]
    bounded, plan, prices = best_plan(wire_lines(seats, reached, takes, gives) + lines, limits, gains)
    times = [multiplied(one, (1, bottom)) for one in plan]
    flow = flow_of(seats, {place: one for place, one in zip(takes, times)},
                   {door: one for door, one in zip(gives, times[len(takes):])})
    if not bounded:
        return (None, flow)
    row = [ENDLESS] * wiring[0]
    for wire, price in zip(reached, prices):
        row[wire] = added(price, (at_out.get(wire, 0), 1))
    found = {mark[:3]: multiplied(price, (mark[3], 1)) for mark, price in zip(marks, prices[len(reached):])}
    return ((tuple(row), quotients_of(seats, tariffs, row, found)), flow)


def wire_lines(seats, reached, takes, gives):
    """For each reached wire what is taken of it more than it gets."""
    taken = [seats[k][0][place] for k, place in takes]
    given = [seats[k][1][door] for k, door in gives]
    return [
        [1 if own == wire else 0 for own in taken] + [-1 if own == wire else 0 for own in given] for wire in reached]


def row_lines(wiring, tariffs, reached, takes, gives):
    """(marks, lines): for each row that counts of a reached door what is given more than it tells.

    Its mark is seat, door, place and the number by which its line is multiplied to be whole.
    """
    marks = []
    lines = []
    for k, door in gives:
        rows = tariffs[k][door]
        for at in counting(rows, wiring[1][k][0], reached):
            own = [rows[at][place] if seat == k else NOUGHT for seat, place in takes]
            bottom = common_bottom(own)
            marks.append((k, door, at, bottom))
            told = [-top for top in tops_over(own, bottom)]
            lines.append(told + [bottom if pair == (k, door) else 0 for pair in gives])
    return (marks, lines)


def flow_of(seats, taken, given):
    """The flow of what is taken and given at places of seats, nought elsewhere."""
    return tuple([
        (tuple([taken.get((k, place), NOUGHT) for place in range(len(seat[0]))]),
         tuple([given.get((k, door), NOUGHT) for door in range(len(seat[1]))]))
        for k, seat in enumerate(seats)])


def quotients_of(seats, tariffs, row, found):
    """The quotients found for rows of doors, nought elsewhere, those of a door with just its wire's price as sum."""
    result = []
    for k, doors in enumerate(tariffs):
        told = []
        for door, rows in enumerate(doors):
            own = tuple([found.get((k, door, at), NOUGHT) for at in range(len(rows))])
            told.append(lowered(own, row[seats[k][1][door]]))
        result.append(tuple(told))
    return tuple(result)


def lowered(quotients, price):
    """The quotients, all made less in one proportion, so that their sum is not above the price."""
    # Their sum is at least the price of a reached wire, and less of them links as well.
    whole = sum_of(quotients)
    if not is_less(price, whole):
        return quotients
    return all_times(quotients, over(price, whole))
