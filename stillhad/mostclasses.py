"""A book and a wish, as an object."""

from stillhad.bookchecker import is_book
from stillhad.endlesspapers import endless_paper
from stillhad.fluxpapers import flux_paper
from stillhad.judging import need
from stillhad.mosts import most_of
from stillhad.pricepapers import price_paper
from stillhad.runfors import run_for
from stillhad.wishes import is_wish


class Mosts:
    """A book and a wish of it, which never change."""

    def __init__(self, book, wish):
        need(is_book(book), "book")
        need(is_wish(book, wish), "wish")
        self._book = book
        self._wish = wish

    def most(self, fill):
        """The most at the fill, a price."""
        return most_of(self._book, self._wish, fill)

    def price(self, fill):
        """Any price row that tells the most at the fill, None if it is endless."""
        return price_paper(self._book, self._wish, fill)

    def flux(self, fill):
        """Any pair of an opening and a flux that has the most, None if it is endless."""
        return flux_paper(self._book, self._wish, fill)

    def endless(self, fill):
        """Any paper of an endless most, None if it is a quotient."""
        return endless_paper(self._book, self._wish, fill)

    def run(self, fill, worth):
        """Any run whose end has at least this worth."""
        return run_for(self._book, self._wish, fill, worth)

    def told(self):
        """The pair (book, wish)."""
        return (self._book, self._wish)

    def __eq__(self, other):
        return isinstance(other, Mosts) and self._book == other._book and self._wish == other._wish
