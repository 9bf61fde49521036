"""Closings to lots, and runs that end exactly at a fill."""

from stillhad.bookchanges import turned_about
from stillhad.openings import lets_opening, opening_of, opening_run
from stillhad.running import end_of


def closing_of(book, lot):
    """Any closing to the lot."""
    return opening_of(turned_about(book), lot)


def lets_closing(book, lot, thing):
    """Check that thing is a closing to the lot; all wares but the greatest trap among those outside the lot."""
    return lets_opening(turned_about(book), lot, thing)


def closing_run(book, fill, near):
    """Any pair (begin, run): a fill as near, and a run from it that ends exactly at the fill."""
    turned = turned_about(book)
    away = opening_run(turned, fill, near)
    # What a step of the book turned about undoes, the deed itself does again.
    back = tuple([(turns, tuple(reversed(steps))) for turns, steps in away])
    return (end_of(turned, fill, away), back)
