"""Rows that link, as papers: no flow goes beyond what they tell."""

from stillhad.arithmetic import NOUGHT, is_less, sum_of, total
from stillhad.errors import InvalidPaper
from stillhad.judging import is_pair
from stillhad.kinds import is_fill, is_row
from stillhad.linkplans import counting, link_plan, need_links, reached_at
from stillhad.reachedwires import places_on
from stillhad.rowsums import open_of


def link_paper(wiring, tariffs, weights, fill):
    """Any pair (row, quotients) that links and tells the linked most, None if that is endless."""
    need_links(wiring, tariffs, weights, fill)
    return link_plan(wiring, tariffs, weights, fill)[0]


def lets_link(wiring, tariffs, weights, fill, thing):
    """Check that thing is a pair (row, quotients) that links; what the row tells at the fill."""
    need_links(wiring, tariffs, weights, fill)
    if not (is_pair(thing) and is_row(wiring[0], thing[0]) and are_quotients(tariffs, thing[1])):
        raise InvalidPaper("shape", -1)
    row, quotients = thing
    reached = reached_at(wiring, tariffs, fill)
    if open_of(row) != reached:
        raise InvalidPaper("row", -1)
    for k, (wire, weight) in enumerate(zip(wiring[3], weights)):
        # At an out that is not reached the row is endless, so this asks of reached ones alone.
        if is_less(row[wire], (weight, 1)):
            raise InvalidPaper("wish", k)
    for k, seat in enumerate(wiring[1]):
        check_sums(seat, tariffs[k], reached, row, quotients[k], k)
        check_places(seat, tariffs[k], reached, row, quotients[k], k)
    return total(row, fill)


def are_quotients(tariffs, thing):
    """Whether thing has, for each seat and each door, a tuple with a quotient for each row of the door's tariff."""
    if not (isinstance(thing, tuple) and len(thing) == len(tariffs)):
        return False
    for doors, told in zip(tariffs, thing):
        if not (isinstance(told, tuple) and len(told) == len(doors)):
            return False
        if not all([is_fill(len(rows), own) for rows, own in zip(doors, told)]):
            return False
    return True


def check_sums(seat, doors, reached, row, told, k):
    """Check that the quotients of each door of seat k add up to its wire's price, and are nought where they must be."""
    for wire, rows, own in zip(seat[1], doors, told):
        able = counting(rows, seat[0], reached) if wire in reached else []
        barred = [one for at, one in enumerate(own) if at not in able and one != NOUGHT]
        if barred or (wire in reached and sum_of(own) != row[wire]):
            raise InvalidPaper("sum", k)


def check_places(seat, doors, reached, row, told, k):
    """Check that at each reached in-place of seat k the wire's price is at least what the rows have there."""
    for place in places_on(seat[0], reached):
        whole = sum_of([
            total([one[place] for one in rows], own) for rows, own in zip(doors, told)])
        if is_less(row[seat[0][place]], whole):
            raise InvalidPaper("below", k)
