"""Ways from seat to seat of a wiring."""

from stillhad.errors import Ringed
from stillhad.judging import is_place, need


def shared_wires(wiring):
    """The lot of wires that stand in the in-wires of all seats more than once."""
    wires, seats, ins, outs = wiring
    taken = [wire for in_wires, out_wires in seats for wire in in_wires]
    return tuple([wire for wire in range(wires) if taken.count(wire) > 1])


def heard_seats(wiring):
    """The lot of seats that have an out-wire among the outs or the in-wires of a heard seat."""
    heard = ()
    more = givers_of_wires(wiring, wiring[3])
    while more != heard:
        heard = more
        asked = [wire for seat in heard for wire in wiring[1][seat][0]]
        more = givers_of_wires(wiring, wiring[3] + tuple(asked))
    return heard


def givers_of_wires(wiring, wires):
    """The lot of seats that have one of the wires as an out-wire."""
    return tuple([k for k, seat in enumerate(wiring[1]) if meets(seat[1], wires)])


def meets(wires, others):
    """Whether one of the wires is among the others."""
    return any([wire in others for wire in wires])


def is_safe(wiring):
    """Whether no in-wire of a heard seat is shared."""
    shared = shared_wires(wiring)
    return not any([meets(wiring[1][seat][0], shared) for seat in heard_seats(wiring)])


def led_to(wiring, seat):
    """The lot of seats that the seat leads on to."""
    return tuple([k for k, other in enumerate(wiring[1]) if meets(wiring[1][seat][1], other[0])])


def way_out(wiring, seat):
    """Any tuple of the fewest seats that lead on from the seat to one with an out, None if it is not heard."""
    need(is_place(len(wiring[1]), seat), "seat")
    met = [seat]
    ways = [(seat,)]
    while ways:
        longer = []
        for way in ways:
            if meets(wiring[1][way[-1]][1], wiring[3]):
                return way
            for other in led_to(wiring, way[-1]):
                if other not in met:
                    met.append(other)
                    longer.append(way + (other,))
        ways = longer
    return None


def ring_seats(wiring):
    """The lot of seats from which one can come back to them."""
    return tuple([seat for seat in range(len(wiring[1])) if seat in led_behind(wiring, seat)])


def led_behind(wiring, seat):
    """A list of all seats to which one comes from the seat by leading on, once or more."""
    met = []
    new = list(led_to(wiring, seat))
    while new:
        met.extend(new)
        led = [other for own in new for other in led_to(wiring, own)]
        new = [other for other in range(len(wiring[1])) if other in led and other not in met]
    return met


def seat_order(wiring):
    """Any tuple of all seats in which none stands ahead of one that leads on to it."""
    rings = ring_seats(wiring)
    if rings != ():
        raise Ringed(rings[0])
    order = []
    while len(order) < len(wiring[1]):
        left = [seat for seat in range(len(wiring[1])) if seat not in order]
        order.append(first_free(wiring, left))
    return tuple(order)


def first_free(wiring, left):
    """The first of the seats left that none of them leads on to."""
    led = [other for seat in left for other in led_to(wiring, seat)]
    return [seat for seat in left if seat not in led][0]
