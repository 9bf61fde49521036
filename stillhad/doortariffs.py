"""The tariffs of the doors of a module."""

from stillhad.judging import is_place, need
from stillhad.tariffs import tariff_of
from stillhad.tariffsums import taken_to
from stillhad.wishes import unit_wish


def door_tariff(module, door):
    """The door tariff of the door, over the ins in their sequence."""
    book, ins, outs = module
    need(is_place(len(outs), door), "door")
    return taken_to(tariff_of(book, unit_wish(book, outs[door])), ins)


def door_tariffs(module):
    """The door tariff of each door."""
    return tuple([door_tariff(module, door) for door in range(len(module[2]))])
