"""Right twins of modules."""

from stillhad.arithmetic import numbers_at
from stillhad.doortariffs import door_tariffs
from stillhad.errors import NoTwin
from stillhad.excesses import excess
from stillhad.layers import layers_of


def has_twin(module):
    """Whether the module has a right twin."""
    return twin_fault(module) is None


def twin_of(module):
    """The module of layers of the module's door tariffs, a right twin of it."""
    fault = twin_fault(module)
    if fault is not None:
        raise NoTwin(fault[0], fault[1])
    return layers_of(len(module[1]), door_tariffs(module))


def twin_fault(module):
    """Any (amounts, weights) at which the most is not the sum of the mosts at the doors, or None."""
    if len(module[2]) == 1:
        return None
    return excess(copied(module), module)


def copied(module):
    """A module with a copy of the book for each door, and each in brought to all of them.

    So its most is the sum of the module's mosts at the doors, each times its weight.
    """
    book, ins, outs = module
    size, deeds = book
    begins = [len(ins) + door * size for door in range(len(outs))]
    wares = len(ins) + size * len(outs)
    made = []
    for place, ware in enumerate(ins):
        made.append((numbers_at(wares, {place: 1}), numbers_at(wares, {begin + ware: 1 for begin in begins})))
    for begin in begins:
        ahead = (0,) * begin
        behind = (0,) * (wares - begin - size)
        made.extend([(ahead + take + behind, ahead + give + behind) for take, give in deeds])
    own_outs = tuple([begin + ware for begin, ware in zip(begins, outs)])
    return ((wares, tuple(made)), tuple(range(len(ins))), own_outs)
