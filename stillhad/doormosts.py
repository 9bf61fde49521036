"""What can be had at the doors of a module."""

from stillhad.modules import module_fill, module_wish
from stillhad.mosts import most_of
from stillhad.wishes import unit_wish


def door_most(module, weights, amounts):
    """The module's most at the amounts for the weights."""
    wish = module_wish(module, weights)
    return most_of(module[0], wish, module_fill(module, amounts))


def door_each(module, amounts):
    """For each door the module's most at it."""
    fill = module_fill(module, amounts)
    return tuple([most_of(module[0], unit_wish(module[0], ware), fill) for ware in module[2]])
