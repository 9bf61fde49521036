"""Tariffs of a wiring, and the wires that are reached by them."""

from stillhad.arithmetic import NOUGHT
from stillhad.judging import need
from stillhad.kinds import is_lot
from stillhad.tariffkinds import is_tariff


def is_tariffs(wiring, thing):
    """Whether thing has, for each seat, a tariff over its in-wires for each of its out-wires."""
    seats = wiring[1]
    if not (isinstance(thing, tuple) and len(thing) == len(seats)):
        return False
    return all([are_door_tariffs_of(seat, own) for seat, own in zip(seats, thing)])


def are_door_tariffs_of(seat, thing):
    """Whether thing is a tuple of a tariff over the seat's in-wires for each of its out-wires."""
    if not (isinstance(thing, tuple) and len(thing) == len(seat[1])):
        return False
    return all([is_tariff(len(seat[0]), rows) for rows in thing])


def reached_wires(wiring, tariffs, lot):
    """The least lot of wires that holds the lot and is reached from itself."""
    need(is_tariffs(wiring, tariffs), "tariffs")
    need(is_lot(wiring[0], lot), "lot")
    return reached_from(wiring, tariffs, lot)


def reached_from(wiring, tariffs, lot):
    """The reached wires, where nothing is judged."""
    now = lot
    more = with_doors(wiring, tariffs, now)
    while more != now:
        now = more
        more = with_doors(wiring, tariffs, now)
    return now


def with_doors(wiring, tariffs, lot):
    """The lot with the wire of each door that has no row that is nought at all in-places on wires of the lot."""
    more = list(lot)
    for (in_wires, out_wires), doors in zip(wiring[1], tariffs):
        places = places_on(in_wires, lot)
        for wire, rows in zip(out_wires, doors):
            if not any([all([row[place] == NOUGHT for place in places]) for row in rows]):
                more.append(wire)
    return tuple([wire for wire in range(wiring[0]) if wire in more])


def places_on(wires, lot):
    """A list of the places at which there is a wire of the lot."""
    return [place for place, wire in enumerate(wires) if wire in lot]
