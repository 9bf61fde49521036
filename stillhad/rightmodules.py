"""Right modules."""

from stillhad.rights import unkept
from stillhad.wishes import unit_wish


def is_right_module(module):
    """Whether the module's book is right for each wish that is 1 at one out and 0 elsewhere."""
    return unkept_door(module) is None


def unkept_door(module):
    """The first (door, deed, place) such that the deed does not keep the row at place for this door, None if all do."""
    book, ins, outs = module
    for door, ware in enumerate(outs):
        pairs = unkept(book, unit_wish(book, ware))
        if pairs != ():
            deed, place = pairs[0]
            return (door, deed, place)
    return None
