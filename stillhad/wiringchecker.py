"""Which values are wirings and houses."""

from stillhad.errors import InvalidPaper
from stillhad.judging import is_pair, is_place, is_whole
from stillhad.modulechecker import is_module_with


def lets_wiring(thing):
    """Check that thing is a wiring; how many seats there are."""
    fault = wiring_fault(thing)
    if fault is not None:
        raise InvalidPaper(fault[0], fault[1])
    return len(thing[1])


def is_wiring(thing):
    """Whether thing is a wiring."""
    return wiring_fault(thing) is None


def is_house(thing):
    """Whether thing is a house."""
    if not (is_pair(thing) and is_wiring(thing[0]) and isinstance(thing[1], tuple)):
        return False
    seats = thing[0][1]
    return len(thing[1]) == len(seats) and first_unseated(seats, thing[1]) is None


def first_unseated(seats, modules):
    """The first place at which there is no module with as many ins and outs as the seat has wires, None if none."""
    for k, (seat, module) in enumerate(zip(seats, modules)):
        if not is_module_with(len(seat[0]), len(seat[1]), module):
            return k
    return None


def wiring_fault(thing):
    """Word and place of the first fault of what may be a wiring, None if there is none."""
    if not (isinstance(thing, tuple) and len(thing) == 4):
        return ("shape", -1)
    wires, seats, ins, outs = thing
    if not is_whole(wires):
        return ("wires", -1)
    if not isinstance(seats, tuple):
        return ("seats", -1)
    for k, seat in enumerate(seats):
        if not is_seat(wires, seat):
            return ("seat", k)
    return door_fault_of(wires, seats, ins, outs)


def is_seat(wires, thing):
    """Whether thing is a pair of tuples of wires, the second not empty."""
    return is_pair(thing) and are_wires(wires, thing[0]) and are_wires(wires, thing[1]) and thing[1] != ()


def are_wires(wires, thing):
    """Whether thing is a tuple of wires, some maybe more than once."""
    return isinstance(thing, tuple) and all([is_place(wires, wire) for wire in thing])


def door_fault_of(wires, seats, ins, outs):
    """Word and place of the first fault of ins and outs of a wiring, None if there is none."""
    if not isinstance(ins, tuple):
        return ("ins", -1)
    given = [wire for seat in seats for wire in seat[1]]
    for k, wire in enumerate(ins):
        if not is_place(wires, wire) or wire in ins[:k] or wire in given:
            return ("in", k)
    if not isinstance(outs, tuple) or outs == ():
        return ("outs", -1)
    taken = [wire for seat in seats for wire in seat[0]]
    for k, wire in enumerate(outs):
        if not is_place(wires, wire) or wire in outs[:k] or wire in ins or wire in taken:
            return ("out", k)
    return None
