"""What rests leave of the most, in ranked books."""

from stillhad.judging import need
from stillhad.losingruns import losing_run
from stillhad.rests import ranks_of, rest_run
from stillhad.rights import is_right
from stillhad.running import end_of
from stillhad.shares import all_hands


def losing_rest(book, wish, near):
    """Any pair that lets_losing accepts for all deeds, and whose run ends at rest."""
    need(ranks_of(book) is not None, "book")
    # In a ranked book the most is never endless, so there is a losing run.
    fill, run = losing_run(book, wish, all_hands(book), near)
    return (fill, run + rest_run(book, end_of(book, fill, run)))


def rests_alike(book, wish):
    """Whether all rests from one fill have one worth, for each fill."""
    need(ranks_of(book) is not None, "book")
    return is_right(book, wish)
