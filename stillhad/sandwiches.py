"""Sandwiches: what the hands leave of a row of the tariff."""

from stillhad.arithmetic import sum_of
from stillhad.errors import InvalidPaper
from stillhad.judging import is_pair, is_place, need, need_hands
from stillhad.kinds import is_fill, is_row
from stillhad.pricekinds import falls_at
from stillhad.rowsums import first_above, row_mixed
from stillhad.sandwichplans import best_sandwich
from stillhad.tariffs import tariff_of
from stillhad.wishes import is_wish


def sandwich_of(book, wish, hands, place):
    """Any sandwich for the tariff's row at place, by hands, with the greatest sum."""
    rows = rows_for(book, wish, hands, place)
    return best_sandwich(book, hands, rows, place)[0]


def lets_sandwich(book, wish, hands, place, thing):
    """Check that thing is a sandwich for the tariff's row at place, by hands; its sum."""
    rows = rows_for(book, wish, hands, place)
    return check_sandwich(book, hands, rows, place, thing)


def rows_for(book, wish, hands, place):
    """The tariff of the book and the wish, when wish, hands and place are as stated."""
    need(is_wish(book, wish), "wish")
    need_hands(book, hands)
    rows = tariff_of(book, wish)
    need(is_place(len(rows), place), "place")
    return rows


def check_sandwich(book, hands, rows, place, thing):
    """Check that thing is a sandwich for the row at place of rows, by hands; its sum."""
    if not is_pair(thing):
        raise InvalidPaper("shape", -1)
    weights, row = thing
    if not is_fill(len(rows), weights):
        raise InvalidPaper("weights", -1)
    if not is_row(book[0], row):
        raise InvalidPaper("row", -1)
    for deed in hands:
        if falls_at(book[1][deed], row):
            raise InvalidPaper("falls", deed)
    above = first_above(row, rows[place])
    if above is not None:
        raise InvalidPaper("above", above)
    below = first_above(row_mixed(rows, weights), row)
    if below is not None:
        raise InvalidPaper("below", below)
    return sum_of(weights)
