"""Breakings: right modules by which a wiring that is not safe loses."""

from stillhad.arithmetic import NOUGHT, numbers_at, placed
from stillhad.errors import InvalidPaper
from stillhad.houses import flat_of
from stillhad.judging import is_place
from stillhad.modulechecker import is_module_with
from stillhad.modules import module_wish
from stillhad.mosts import most_of
from stillhad.rightmodules import is_right_module
from stillhad.runkinds import is_run
from stillhad.running import end_of, stuck_at
from stillhad.ways import heard_seats, shared_wires, way_out


def breaking_of(wiring):
    """Any triple (modules, wire, run) that lets_breaking accepts, None if the wiring is safe."""
    found = shortest_way(wiring)
    if found is None:
        return None
    way, wire = found
    seats = wiring[1]
    hops = hops_along(wiring, way, seats[way[0]][0].index(wire))
    # Where the wire stands once more, a deed makes nothing of what the way could have.
    loss = other_place(seats, wire, (hops[0][0], hops[0][1]))
    modules = []
    for k, (in_wires, out_wires) in enumerate(seats):
        pairs = [(place, None) for seat, place in (loss,) if seat == k]
        pairs.extend([(place, door) for seat, place, door in hops if seat == k])
        modules.append(passing_module(len(in_wires), len(out_wires), pairs))
    ahead = sum([len(module[0][1]) for module in modules[:loss[0]]])
    return (tuple(modules), wire, ((1, ((ahead, (1, 1)),)),))


def shortest_way(wiring):
    """(way, wire): the shortest way out of a seat that has a shared in-wire, and this wire; None if there is none.

    No seat but the first one of the way has the wire, else a shorter way would begin there.
    """
    shared = shared_wires(wiring)
    ways = [
        (way_out(wiring, seat), wire) for seat in heard_seats(wiring) for wire in wiring[1][seat][0] if wire in shared]
    if not ways:
        return None
    return min([(len(way), way, wire) for way, wire in ways])[1:]


def hops_along(wiring, way, place):
    """For each seat of the way its number, the in-place where the way comes in, the door where it goes on."""
    seats = wiring[1]
    hops = []
    for seat, after in zip(way, way[1:] + (None,)):
        wanted = wiring[3] if after is None else seats[after][0]
        out_wires = seats[seat][1]
        door = [k for k, wire in enumerate(out_wires) if wire in wanted][0]
        hops.append((seat, place, door))
        place = wanted.index(out_wires[door])
    return hops


def other_place(seats, wire, place):
    """The first pair (seat, in-place), but for this one, at which the wire stands."""
    pairs = [(k, at) for k, seat in enumerate(seats) for at, own in enumerate(seat[0]) if own == wire]
    return [pair for pair in pairs if pair != place][0]


def passing_module(ins, outs, pairs):
    """The module with a deed for each pair (in, door), that makes one of the out of one of the in; nothing for None."""
    size = ins + outs
    deeds = []
    for place, door in pairs:
        give = {} if door is None else {ins + door: 1}
        deeds.append((numbers_at(size, {place: 1}), numbers_at(size, give)))
    return ((size, tuple(deeds)), tuple(range(ins)), tuple(range(ins, size)))


def lets_breaking(wiring, thing):
    """Check that by these right modules the run, from 1 on the wire, loses all of the most; the most before it."""
    if not (isinstance(thing, tuple) and len(thing) == 3):
        raise InvalidPaper("shape", -1)
    modules, wire, run = thing
    check_right(wiring[1], modules)
    if not is_place(wiring[0], wire):
        raise InvalidPaper("wire", -1)
    flat = flat_of((wiring, modules))
    begin = placed(flat[0][0], [wire], [(1, 1)])
    if not is_run(flat[0], run) or stuck_at(flat[0], begin, run) is not None:
        raise InvalidPaper("run", -1)
    wish = module_wish(flat, (1,) * len(flat[2]))
    before = most_of(flat[0], wish, begin)
    if before == NOUGHT:
        raise InvalidPaper("before", -1)
    if most_of(flat[0], wish, end_of(flat[0], begin, run)) != NOUGHT:
        raise InvalidPaper("behind", -1)
    return before


def check_right(seats, modules):
    """Check that there is a right module for each seat, with as many ins and outs as it has wires."""
    if not (isinstance(modules, tuple) and len(modules) == len(seats)):
        raise InvalidPaper("modules", -1)
    for k, (seat, module) in enumerate(zip(seats, modules)):
        if not is_module_with(len(seat[0]), len(seat[1]), module) or not is_right_module(module):
            raise InvalidPaper("modules", k)
