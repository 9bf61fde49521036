"""Deeds added to a book, and books put together."""

from stillhad.bookchanges import with_all, with_deed
from stillhad.bookchecker import is_book
from stillhad.judging import is_numbers, need
from stillhad.pricekinds import rises_at
from stillhad.rights import is_kept, is_right
from stillhad.tariffs import tariff_of
from stillhad.traps import touches
from stillhad.wishes import is_wish, wished_wares


def lifts(book, wish, take, give):
    """Whether, with the deed (take, give) added, the most is more at some fill."""
    need_addition(book, wish, take, give)
    return any([rises_at((take, give), row) for row in tariff_of(book, wish)])


def keeps_tariff(book, wish, take, give):
    """Whether the deed (take, give) keeps each row of the tariff."""
    need_addition(book, wish, take, give)
    return all([is_kept((take, give), row) for row in tariff_of(book, wish)])


def need_addition(book, wish, take, give):
    """Refuse a wish, and a take or give of a deed, that are not as stated; a take of wished wares, too."""
    need(is_wish(book, wish), "wish")
    need(is_numbers(book[0], take) and not touches(take, wished_wares(book, wish)), "take")
    need(is_numbers(book[0], give), "give")


def added(book, wish, take, give):
    """The book with the deed (take, give), which keeps the tariff, as the last one."""
    need(keeps_tariff(book, wish, take, give), "give")
    return with_deed(book, take, give)


def put_together(book, wish, other):
    """The book with all deeds of other, both right for the wish with the same tariff."""
    need(is_wish(book, wish), "wish")
    need(is_book(other) and is_wish(other, wish), "other")
    need(is_right(book, wish) and is_right(other, wish), "other")
    need(tariff_of(book, wish) == tariff_of(other, wish), "other")
    return with_all(book, other)
