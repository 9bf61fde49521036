"""Modules that can stand for one another in houses."""

from stillhad.alikes import alike_modules, modules_apart
from stillhad.houses import joined_house, need_seated


def can_swap(house, seat, module):
    """Whether the module and the one on the seat make the same goals from the same amounts."""
    need_seated(house, seat, module)
    return alike_modules(house[1][seat], module)


def parting_houses(module, other):
    """Any (house, house, amounts) of joined houses of both with unlike mosts there, None if they make the same."""
    found = modules_apart(module, other)
    if found is None:
        return None
    amounts, weights = found
    return (joined_house(module, weights), joined_house(other, weights), amounts)
