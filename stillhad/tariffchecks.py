"""The checker of the tariff of a book and a wish."""

from stillhad.errors import InvalidPaper
from stillhad.judging import need
from stillhad.pricekinds import is_price_row
from stillhad.tariffkinds import is_tariff
from stillhad.tariffs import tariff_of
from stillhad.trimming import is_needless
from stillhad.wishes import is_wish


def lets_tariff(book, wish, thing):
    """Check that thing is the tariff of the book and the wish; how many rows it has."""
    need(is_wish(book, wish), "wish")
    if not is_tariff(book[0], thing):
        raise InvalidPaper("shape", -1)
    for k, row in enumerate(thing):
        if not is_price_row(book, wish, row):
            raise InvalidPaper("row", k)
    for k in range(len(thing)):
        if is_needless(thing, k):
            raise InvalidPaper("needless", k)
    # Price rows tell the most at least, and of trimmed tariffs just one tells it everywhere.
    if thing != tariff_of(book, wish):
        raise InvalidPaper("lacks", -1)
    return len(thing)
