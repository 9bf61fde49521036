"""A book and the fill now, as an object."""

from stillhad.arithmetic import NOUGHT
from stillhad.bookchecker import is_book
from stillhad.judging import need, need_fill
from stillhad.rests import at_rest
from stillhad.rowsums import fill_plus
from stillhad.runkinds import flux_of
from stillhad.running import end_of
from stillhad.stepping import after_step, can_do, most_times


class Shelf:
    """A book and the fill now, which deeds and runs change."""

    def __init__(self, book, fill):
        need(is_book(book), "book")
        need_fill(book, fill)
        self._book = book
        self._fill = fill
        self._flux = (NOUGHT,) * len(book[1])

    def can(self, deed):
        """Whether the deed can be done now."""
        return can_do(self._book, self._fill, deed)

    def most(self, deed):
        """The greatest times with which the deed can be done now."""
        return most_times(self._book, self._fill, deed)

    def do(self, deed, times):
        """Do the step (deed, times)."""
        behind = after_step(self._book, self._fill, deed, times)
        self._keep(behind, ((1, ((deed, times),)),))

    def go(self, run):
        """Do the run."""
        behind = end_of(self._book, self._fill, run)
        self._keep(behind, run)

    def stands(self):
        """The fill now."""
        return self._fill

    def rests(self):
        """Whether the fill now is at rest."""
        return at_rest(self._book, self._fill)

    def did(self):
        """The flux of all that was done."""
        return self._flux

    def told(self):
        """The pair (book, fill now)."""
        return (self._book, self._fill)

    def __eq__(self, other):
        return isinstance(other, Shelf) and self._book == other._book and self._fill == other._fill

    def _keep(self, behind, run):
        """Take the fill behind the run, which was done."""
        self._fill = behind
        self._flux = fill_plus(self._flux, flux_of(self._book, run))
