"""Books, and what can be told of their deeds and wares."""

from stillhad.bookchecker import is_deed
from stillhad.errors import NotUsable
from stillhad.judging import need_deed, need_lot, need_ware


def book_of(size, *deeds):
    """The book of these deeds."""
    for place, deed in enumerate(deeds):
        if not is_deed(size, deed):
            raise NotUsable("deeds", place)
    return (size, deeds)


def change_of(book, deed):
    """For each ware what the deed gives less what it takes."""
    need_deed(book, deed)
    take, give = book[1][deed]
    return tuple([more - gone for gone, more in zip(take, give)])


def takers_of(book, ware):
    """The lot of deeds that take the ware."""
    need_ware(book, ware)
    return tuple([place for place, deed in enumerate(book[1]) if deed[0][ware] > 0])


def givers_of(book, ware):
    """The lot of deeds that give the ware."""
    need_ware(book, ware)
    return tuple([place for place, deed in enumerate(book[1]) if deed[1][ware] > 0])


def end_wares(book):
    """The lot of wares that no deed takes."""
    return tuple([ware for ware in range(book[0]) if not takers_of(book, ware)])


def tools_of(book, deed):
    """The lot of wares that the deed both takes and gives."""
    need_deed(book, deed)
    take, give = book[1][deed]
    return tuple([ware for ware in range(book[0]) if take[ware] > 0 and give[ware] > 0])


def within_of(book, lot):
    """The lot of deeds that take nothing outside the lot."""
    need_lot(book, lot)
    return tuple([place for place, deed in enumerate(book[1]) if is_within(deed[0], lot)])


def is_within(numbers, lot):
    """Whether all wares at which the numbers are above 0 are in the lot."""
    return all([number == 0 or ware in lot for ware, number in enumerate(numbers)])
