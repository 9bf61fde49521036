"""Rows that never rise or fall, and price rows."""

from stillhad.arithmetic import as_quotients, is_less, total
from stillhad.judging import need, need_deed, need_row
from stillhad.kinds import is_row
from stillhad.rowsums import first_above
from stillhad.wishes import is_wish


def told_at_deed(deed, row):
    """What the row tells at the take and at the give of the deed."""
    take, give = deed
    return (total(row, as_quotients(take)), total(row, as_quotients(give)))


def rises_at(deed, row):
    """Whether the row tells more at the give of the deed than at its take."""
    before, behind = told_at_deed(deed, row)
    return is_less(before, behind)


def falls_at(deed, row):
    """Whether the row tells less at the give of the deed than at its take."""
    before, behind = told_at_deed(deed, row)
    return is_less(behind, before)


def never_rises(book, row):
    """Whether no deed makes the row tell more."""
    need_row(book, row)
    return first_rise(book, row) is None


def first_rise(book, row):
    """The first deed at whose give the row tells more than at its take, None if there is none."""
    for place, deed in enumerate(book[1]):
        if rises_at(deed, row):
            return place
    return None


def never_falls(book, row):
    """Whether no deed makes the row tell less."""
    need_row(book, row)
    return not any([falls_at(deed, row) for deed in book[1]])


def keeps(book, deed, row):
    """Whether the row tells the same at the take and at the give of the deed."""
    need_deed(book, deed)
    need_row(book, row)
    before, behind = told_at_deed(book[1][deed], row)
    return before == behind


def is_price_row(book, wish, thing):
    """Whether thing is a row that never rises and that is nowhere below the wish."""
    need(is_wish(book, wish), "wish")
    if not is_row(book[0], thing) or first_below(wish, thing) is not None:
        return False
    return never_rises(book, thing)


def first_below(wish, row):
    """The first ware at which the row is below the wish, None if there is none."""
    return first_above(as_quotients(wish), row)
