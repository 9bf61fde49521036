"""Price rows as papers of the most: no run goes beyond what they tell."""

from stillhad.arithmetic import total
from stillhad.bestplans import best_flux
from stillhad.errors import InvalidPaper
from stillhad.judging import need, need_fill
from stillhad.kinds import is_row
from stillhad.pricekinds import first_below, first_rise
from stillhad.wishes import is_wish


def price_paper(book, wish, fill):
    """Any price row that tells the most at the fill, None if the most is endless."""
    need(is_wish(book, wish), "wish")
    need_fill(book, fill)
    return best_flux(book, wish, fill)[1]


def lets_price(book, wish, fill, thing):
    """Check that thing is a price row; what it tells at the fill."""
    need(is_wish(book, wish), "wish")
    need_fill(book, fill)
    if not is_row(book[0], thing):
        raise InvalidPaper("row", -1)
    ware = first_below(wish, thing)
    if ware is not None:
        raise InvalidPaper("below", ware)
    check_rises(book, thing)
    return total(thing, fill)


def check_rises(book, row):
    """Check that the row never rises."""
    deed = first_rise(book, row)
    if deed is not None:
        raise InvalidPaper("rises", deed)
