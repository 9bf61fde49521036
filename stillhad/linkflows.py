"""Flows of a wiring with tariffs, as papers: so much comes to the outs."""

from stillhad.arithmetic import NOUGHT, added, is_less, least_price, multiplied, sum_of, total
from stillhad.errors import InvalidPaper
from stillhad.judging import is_pair
from stillhad.kinds import is_fill
from stillhad.linkplans import counting, link_plan, need_links, reached_at, weight_at
from stillhad.reachedwires import places_on
from stillhad.rowsums import first_above


def flow_paper(wiring, tariffs, weights, fill):
    """Any flow that takes no more of a wire than it has and gets, with the linked most as worth; None if endless."""
    need_links(wiring, tariffs, weights, fill)
    paper, flow = link_plan(wiring, tariffs, weights, fill)
    return None if paper is None else flow


def lets_flow(wiring, tariffs, weights, fill, thing):
    """Check that thing is a flow that takes no more of a wire than it has and gets; its worth."""
    need_links(wiring, tariffs, weights, fill)
    return flowing(wiring, weights, fill, checked_flow(wiring, tariffs, fill, thing))


def endless_flow(wiring, tariffs, weights, fill):
    """Any flow that takes no more of a wire than it gets and gains something; None if the linked most is a quotient."""
    need_links(wiring, tariffs, weights, fill)
    paper, flow = link_plan(wiring, tariffs, weights, fill)
    return flow if paper is None else None


def lets_endless_flow(wiring, tariffs, weights, fill, thing):
    """Check that thing is a flow that takes no more of a wire than it gets and gains something; its gain."""
    need_links(wiring, tariffs, weights, fill)
    nothing = (NOUGHT,) * wiring[0]
    gain = flowing(wiring, weights, nothing, checked_flow(wiring, tariffs, fill, thing))
    if gain == NOUGHT:
        raise InvalidPaper("gain", -1)
    return gain


def checked_flow(wiring, tariffs, fill, thing):
    """The flow that thing is, by the wires reached from the fill; InvalidPaper if it is none."""
    seats = wiring[1]
    if not (isinstance(thing, tuple) and len(thing) == len(seats)):
        raise InvalidPaper("shape", -1)
    if not all([is_seat_flow(seat, own) for seat, own in zip(seats, thing)]):
        raise InvalidPaper("shape", -1)
    reached = reached_at(wiring, tariffs, fill)
    for k, (seat, own) in enumerate(zip(seats, thing)):
        check_seat(seat, tariffs[k], reached, own, k)
    return thing


def is_seat_flow(seat, thing):
    """Whether thing is a pair of quotients for each in-place and for each door of the seat."""
    return is_pair(thing) and is_fill(len(seat[0]), thing[0]) and is_fill(len(seat[1]), thing[1])


def check_seat(seat, doors, reached, own, k):
    """Check what seat k takes, where that is reached, and that its doors give no more than the rows tell."""
    takes, gives = own
    places = places_on(seat[0], reached)
    if any([amount != NOUGHT and place not in places for place, amount in enumerate(takes)]):
        raise InvalidPaper("takes", k)
    for rows, amount in zip(doors, gives):
        if is_less(least_price([total(rows[at], takes) for at in counting(rows, seat[0], reached)]), amount):
            raise InvalidPaper("gives", k)


def flowing(wiring, weights, fill, flow):
    """The worth by the flow of what the outs have and get; InvalidPaper if more is taken of a wire than that."""
    wires, seats, ins, outs = wiring
    taken = [NOUGHT] * wires
    there = list(fill)
    for seat, (takes, gives) in zip(seats, flow):
        for wire, amount in zip(seat[0], takes):
            taken[wire] = added(taken[wire], amount)
        for wire, amount in zip(seat[1], gives):
            there[wire] = added(there[wire], amount)
    lacking = first_above(taken, there)
    if lacking is not None:
        raise InvalidPaper("lacks", lacking)
    return sum_of([multiplied(there[wire], (weight, 1)) for wire, weight in weight_at(wiring, weights).items()])
