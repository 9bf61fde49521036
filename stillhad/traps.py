"""Traps: lots that are touched for ever once they are."""

from stillhad.bookchanges import turned_about
from stillhad.judging import need_lot
from stillhad.lots import all_lots, closed_from


def is_trap(book, lot):
    """Whether each deed that takes some of the lot gives some of it."""
    need_lot(book, lot)
    return all([touches(give, lot) or not touches(take, lot) for take, give in book[1]])


def touches(numbers, lot):
    """Whether the numbers are above 0 at some ware of the lot."""
    return any([numbers[ware] > 0 for ware in lot])


def trap_within(book, lot):
    """The greatest trap within the lot."""
    need_lot(book, lot)
    # A lot is a trap exactly if all other wares are closed in the book turned about.
    return others(book[0], closed_from(turned_about(book), others(book[0], lot)))


def others(size, lot):
    """The lot of all wares of the size but those of the lot."""
    return tuple([ware for ware in range(size) if ware not in lot])


def all_traps(book):
    """The ascending tuple of all traps."""
    return tuple([lot for lot in all_lots(book[0]) if is_trap(book, lot)])
