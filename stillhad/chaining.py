"""Tariffs of a wiring, chained from its ins to its outs."""

from stillhad.arithmetic import NOUGHT
from stillhad.errors import Shared
from stillhad.judging import need
from stillhad.putting import put_in
from stillhad.reachedwires import is_tariffs
from stillhad.tariffsums import tariff_plus
from stillhad.ways import seat_order, shared_wires


def chained_tariffs(wiring, tariffs):
    """For each out the trimmed tariff over the ins of what comes to it."""
    need(is_tariffs(wiring, tariffs), "tariffs")
    shared = shared_wires(wiring)
    if shared != ():
        raise Shared(shared[0])
    order = seat_order(wiring)
    wires, seats, ins, outs = wiring
    many = len(ins)
    come = [coming_to(ins, wire) for wire in range(wires)]
    for seat in order:
        in_wires, out_wires = seats[seat]
        brought = tuple([come[wire] for wire in in_wires])
        for wire, rows in zip(out_wires, tariffs[seat]):
            come[wire] = tariff_plus(come[wire], put_in(many, rows, brought))
    return tuple([come[wire] for wire in outs])


def coming_to(ins, wire):
    """The tariff over the ins of what comes to the wire without any seat: the amount of an in, else nought."""
    return (tuple([(1, 1) if own == wire else NOUGHT for own in ins]),)
