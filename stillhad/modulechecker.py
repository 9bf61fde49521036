"""Which values are modules."""

from stillhad.bookchecker import is_book
from stillhad.books import end_wares, givers_of
from stillhad.errors import InvalidPaper
from stillhad.judging import is_place


def lets_module(thing):
    """Check that thing is a module; how many inner wares it has."""
    if not is_triple(thing):
        raise InvalidPaper("shape", -1)
    book, ins, outs = thing
    if not is_book(book):
        raise InvalidPaper("book", -1)
    fault = door_fault(book, ins, outs)
    if fault is not None:
        raise InvalidPaper(fault[0], fault[1])
    return book[0] - len(ins) - len(outs)


def is_triple(thing):
    """Whether thing is a tuple of three values."""
    return isinstance(thing, tuple) and len(thing) == 3


def door_fault(book, ins, outs):
    """Word and place of the first fault of ins and outs of a module of the book, None if there is none."""
    if not isinstance(ins, tuple):
        return ("ins", -1)
    for k, ware in enumerate(ins):
        if not is_place(book[0], ware) or ware in ins[:k] or givers_of(book, ware) != ():
            return ("in", k)
    if not isinstance(outs, tuple) or outs == ():
        return ("outs", -1)
    ends = end_wares(book)
    for k, ware in enumerate(outs):
        if not is_place(book[0], ware) or ware in outs[:k] or ware in ins or ware not in ends:
            return ("out", k)
    return None


def is_module(thing):
    """Whether thing is a module."""
    return is_triple(thing) and is_book(thing[0]) and door_fault(thing[0], thing[1], thing[2]) is None


def is_module_with(ins, outs, thing):
    """Whether thing is a module with so many ins and outs."""
    return is_module(thing) and len(thing[1]) == ins and len(thing[2]) == outs


def is_module_like(module, thing):
    """Whether thing is a module with as many ins and outs as the module."""
    return is_module_with(len(module[1]), len(module[2]), thing)
