"""A book as an object."""

from stillhad.bookchanges import with_deed
from stillhad.books import book_of, change_of, end_wares, takers_of
from stillhad.judging import is_whole, need


class Book:
    """A book that never changes."""

    def __init__(self, size, *deeds):
        need(is_whole(size), "size")
        self._book = book_of(size, *deeds)

    def change(self, deed):
        """For each ware what the deed gives less what it takes."""
        return change_of(self._book, deed)

    def takers(self, ware):
        """The lot of deeds that take the ware."""
        return takers_of(self._book, ware)

    def ends(self):
        """The lot of end wares."""
        return end_wares(self._book)

    def with_deed(self, take, give):
        """The Book with the deed (take, give) as the last one."""
        size, deeds = with_deed(self._book, take, give)
        return Book(size, *deeds)

    def told(self):
        """The book as a tuple."""
        return self._book

    def __add__(self, other):
        need(isinstance(other, Book) and other._book[0] == self._book[0], "other")
        size, deeds = self._book
        more = deeds + other._book[1]
        return Book(size, *more)

    def __eq__(self, other):
        return isinstance(other, Book) and self._book == other._book

    def __len__(self):
        return len(self._book[1])
