"""Closed lots."""

from stillhad.books import within_of
from stillhad.judging import need_lot


def closed_from(book, lot):
    """The closed lot from the lot."""
    need_lot(book, lot)
    now = lot
    more = given_within(book, now)
    while more != now:
        now = more
        more = given_within(book, now)
    return now


def given_within(book, lot):
    """The lot with all that the deeds within it give."""
    gives = [book[1][deed][1] for deed in within_of(book, lot)]
    return tuple([ware for ware in range(book[0]) if ware in lot or any([give[ware] > 0 for give in gives])])


def is_closed(book, lot):
    """Whether the lot is closed."""
    need_lot(book, lot)
    return given_within(book, lot) == lot


def closed_lots(book):
    """The ascending tuple of all closed lots."""
    return tuple([lot for lot in all_lots(book[0]) if is_closed(book, lot)])


def all_lots(size):
    """All lots of wares of the size, ascending."""
    lots = [()]
    for ware in range(size):
        lots = lots + [lot + (ware,) for lot in lots]
    return sorted(lots)
