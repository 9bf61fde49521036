"""Papers of sure shares: a sandwich for each row of the tariff."""

from stillhad.errors import InvalidPaper
from stillhad.judging import need, need_hands
from stillhad.sandwiches import check_sandwich
from stillhad.shares import best_sandwiches, least_share
from stillhad.tariffs import tariff_of
from stillhad.wishes import is_wish


def share_paper(book, wish, hands):
    """For each row of the tariff any sandwich by hands with the greatest sum."""
    return best_sandwiches(book, wish, hands)


def lets_share(book, wish, hands, thing):
    """Check that thing has a sandwich by hands for each row of the tariff; the least sum."""
    need(is_wish(book, wish), "wish")
    need_hands(book, hands)
    rows = tariff_of(book, wish)
    if not (isinstance(thing, tuple) and len(thing) == len(rows)):
        raise InvalidPaper("shape", -1)
    return least_share([sum_in(book, hands, rows, place, one) for place, one in enumerate(thing)])


def sum_in(book, hands, rows, place, thing):
    """The sum of the sandwich for the row at place; InvalidPaper for what is none."""
    try:
        return check_sandwich(book, hands, rows, place, thing)
    except InvalidPaper:
        raise InvalidPaper("sandwich", place)
