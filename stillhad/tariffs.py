"""The tariff of a book and a wish."""

from stillhad.books import end_wares
from stillhad.corners import edge_rows
from stillhad.judging import need
from stillhad.lots import closed_lots
from stillhad.trimming import trimmed
from stillhad.wishes import is_wish


def tariff_of(book, wish):
    """The tariff of the book and the wish: its sharp rows."""
    need(is_wish(book, wish), "wish")
    ends = end_wares(book)
    rows = []
    for lot in closed_lots(book):
        # No deed takes an end ware, so a price above the wish there, and all the more an endless one,
        # makes a row that is nowhere needed.
        if all([ware in lot for ware in ends]):
            free = tuple([ware for ware in lot if ware not in ends])
            rows.extend(edge_rows(book, wish, lot, free))
    return trimmed(tuple(rows))
