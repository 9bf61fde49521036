"""Fills at which two tariffs, or the mosts of two books, are unlike."""

from stillhad.bookchecker import is_book
from stillhad.judging import need
from stillhad.tariffkinds import is_tariff_like
from stillhad.tariffs import tariff_of
from stillhad.undercuts import undercut


def tariffs_apart(rows, other):
    """Any fill at which the leasts of the two tariffs are unlike, None if there is none."""
    need(is_tariff_like(rows, other), "other")
    for one, its in ((rows, other), (other, rows)):
        for row in one:
            fill = undercut(row, its)[1]
            if fill is not None:
                return fill
    return None


def books_apart(book, other, wish):
    """Any fill at which the mosts of the two books for the wish are unlike, None if there is none."""
    need(is_book(other) and other[0] == book[0], "other")
    return tariffs_apart(tariff_of(book, wish), tariff_of(other, wish))
