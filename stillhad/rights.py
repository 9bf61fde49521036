"""Harmless deeds and right books."""

from stillhad.books import end_wares
from stillhad.pricekinds import told_at_deed
from stillhad.tariffs import tariff_of
from stillhad.wishes import unit_wish


def harmless_deeds(book, wish):
    """The lot of deeds that keep each row of the tariff."""
    harmful = [deed for deed, place in unkept(book, wish)]
    return tuple([deed for deed in range(len(book[1])) if deed not in harmful])


def is_right(book, wish):
    """Whether the book is right for the wish."""
    return unkept(book, wish) == ()


def unkept(book, wish):
    """All pairs (deed, place) such that the deed does not keep the tariff's row at place, ascending."""
    rows = tariff_of(book, wish)
    return tuple([
        (place, k) for place, deed in enumerate(book[1]) for k, row in enumerate(rows) if not is_kept(deed, row)])


def is_kept(deed, row):
    """Whether the row tells the same at the take and at the give of the deed."""
    before, behind = told_at_deed(deed, row)
    return before == behind


def right_each(book):
    """Whether the book is right for each wish that is 1 at one end ware and 0 elsewhere."""
    return all([is_right(book, unit_wish(book, ware)) for ware in end_wares(book)])
