"""Sure shares: how much of the most is safe, whatever the hands do."""

from stillhad.arithmetic import least_price, sum_of
from stillhad.judging import need, need_hands
from stillhad.sandwiches import sandwich_of
from stillhad.sandwichplans import best_sandwich
from stillhad.tariffs import tariff_of
from stillhad.wishes import is_wish


def row_share(book, wish, hands, place):
    """The greatest sum of a sandwich for the tariff's row at place, by hands."""
    return sum_of(sandwich_of(book, wish, hands, place)[0])


def share_table(book, wish, hands):
    """The row shares of all rows of the tariff."""
    return tuple([sum_of(sandwich[0]) for sandwich in best_sandwiches(book, wish, hands)])


def best_sandwiches(book, wish, hands):
    """For each row of the tariff any sandwich by hands with the greatest sum."""
    need(is_wish(book, wish), "wish")
    need_hands(book, hands)
    rows = tariff_of(book, wish)
    return tuple([best_sandwich(book, hands, rows, place)[0] for place in range(len(rows))])


def sure_share(book, wish, hands):
    """The sure share for hands."""
    return least_share(share_table(book, wish, hands))


def least_share(shares):
    """The least of the rows' shares, 1 if there are none."""
    return least_price(shares) if shares else (1, 1)


def all_hands(book):
    """The lot of all deeds."""
    return tuple(range(len(book[1])))
