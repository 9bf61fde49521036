"""A book, a wish and hands, as an object."""

from stillhad.additions import keeps_tariff
from stillhad.bookchecker import is_book
from stillhad.judging import need, need_hands
from stillhad.losingruns import losing_run
from stillhad.rights import harmless_deeds, is_right
from stillhad.sandwiches import sandwich_of
from stillhad.shares import sure_share
from stillhad.tariffs import tariff_of
from stillhad.wishes import is_wish


class Share:
    """A book, a wish of it and hands, which never change."""

    def __init__(self, book, wish, hands):
        need(is_book(book), "book")
        need(is_wish(book, wish), "wish")
        need_hands(book, hands)
        self._book = book
        self._wish = wish
        self._hands = hands

    def share(self):
        """The sure share for the hands."""
        return sure_share(self._book, self._wish, self._hands)

    def harmless(self):
        """The lot of the harmless deeds of the book."""
        return harmless_deeds(self._book, self._wish)

    def right(self):
        """Whether the book is right for the wish."""
        return is_right(self._book, self._wish)

    def rows(self):
        """The tariff."""
        return tariff_of(self._book, self._wish)

    def sandwich(self, place):
        """Any sandwich for the tariff's row at place, by the hands, with the greatest sum."""
        return sandwich_of(self._book, self._wish, self._hands, place)

    def lose(self, near):
        """Any pair (fill, run) by which the hands leave at most the sure share, and near, of the most."""
        return losing_run(self._book, self._wish, self._hands, near)

    def keeps(self, take, give):
        """Whether the deed (take, give) keeps each row of the tariff."""
        return keeps_tariff(self._book, self._wish, take, give)

    def told(self):
        """The triple (book, wish, hands)."""
        return (self._book, self._wish, self._hands)

    def __eq__(self, other):
        return (isinstance(other, Share) and self._book == other._book and self._wish == other._wish
                and self._hands == other._hands)
