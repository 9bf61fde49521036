"""Houses of modules, and houses flat."""

from stillhad.arithmetic import NOUGHT, numbers_at
from stillhad.errors import NotUsable
from stillhad.judging import is_place, is_weights, need
from stillhad.kinds import is_fill
from stillhad.layers import joiner_of
from stillhad.modulechecker import is_module_like
from stillhad.modules import inner_of
from stillhad.wiringchecker import first_unseated


def house_of(wiring, *modules):
    """The house of the wiring and these modules."""
    seats = wiring[1]
    need(len(modules) == len(seats), "modules")
    wrong = first_unseated(seats, modules)
    if wrong is not None:
        raise NotUsable("modules", wrong)
    return (wiring, modules)


def flat_of(house):
    """The house as one module: the wires, then the inner wares of the modules."""
    (wires, seats, ins, outs), modules = house
    size = flat_size(house)
    deeds = []
    begin = wires
    for (in_wires, out_wires), module in zip(seats, modules):
        inner = inner_of(module)
        places = {ware: begin + k for k, ware in enumerate(inner)}
        for ware, wire in zip(module[1] + module[2], in_wires + out_wires):
            places[ware] = wire
        deeds.extend([(put_to(size, places, take), put_to(size, places, give)) for take, give in module[0][1]])
        begin += len(inner)
    return ((size, tuple(deeds)), ins, outs)


def flat_size(house):
    """How many wares the house has, flat."""
    wiring, modules = house
    return wiring[0] + sum([len(inner_of(module)) for module in modules])


def put_to(size, places, numbers):
    """The numbers, each put to the place of its ware, those put to one place added."""
    at = {}
    for ware, number in enumerate(numbers):
        at[places[ware]] = at.get(places[ware], 0) + number
    return numbers_at(size, at)


def house_fill(house, fill):
    """The fill of the flat book with these amounts on the wires and nought elsewhere."""
    wires = house[0][0]
    need(is_fill(wires, fill), "fill")
    return fill + (NOUGHT,) * (flat_size(house) - wires)


def house_wish(house, weights):
    """The wish of the flat book with these weights at the outs and 0 elsewhere."""
    outs = house[0][3]
    need(is_weights(len(outs), weights), "weights")
    return numbers_at(flat_size(house), {wire: weight for wire, weight in zip(outs, weights)})


def with_module(house, seat, module):
    """The house with this module on the seat."""
    need_seated(house, seat, module)
    wiring, modules = house
    return (wiring, modules[:seat] + (module,) + modules[seat + 1:])


def need_seated(house, seat, module):
    """Refuse what is no seat, and what is no module with as many ins and outs as the one there."""
    modules = house[1]
    need(is_place(len(modules), seat), "seat")
    need(is_module_like(modules[seat], module), "module")


def joined_house(module, weights):
    """The house of the module and, behind it, the joiner by weights of its outs."""
    need(is_weights(len(module[2]), weights), "weights")
    ins = tuple(range(len(module[1])))
    out = len(ins) + len(weights)
    between = tuple(range(len(ins), out))
    wiring = (out + 1, ((ins, between), (between, (out,))), ins, (out,))
    return (wiring, (module, joiner_of(weights)))
