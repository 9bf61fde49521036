"""What a live store tells."""

from stillhad.arithmetic import NOUGHT, added, as_quotients, is_less, total
from stillhad.bookchecker import is_book
from stillhad.buying import least_cost
from stillhad.grains import grain_of
from stillhad.judging import need, need_fill
from stillhad.mosts import most_of
from stillhad.reasons import deeds_in, run_in
from stillhad.rights import is_right
from stillhad.shares import sure_share
from stillhad.wishes import is_wish


class LiveAsks:
    """A store with its first book and fill."""

    def __init__(self, book, wish, fill):
        need(is_book(book), "book")
        need(is_wish(book, wish), "wish")
        need_fill(book, fill)
        self._wish = wish
        self._events = []
        # The first ones, then those behind each event.
        self._books = [book]
        self._fills = [fill]

    def stands(self):
        """The fill now."""
        return self._fills[-1]

    def book_now(self):
        """The book now."""
        return self._books[-1]

    def came(self):
        """The first fill with all that was brought added."""
        return self._with_all("bring", self._fills[0])

    def handed(self):
        """The fill of all that was handed out."""
        return self._with_all("hand", (NOUGHT,) * len(self._wish))

    def most(self):
        """The most at the fill now, in the book now."""
        return most_of(self.book_now(), self._wish, self.stands())

    def still(self):
        """The most and the worth of all that was handed out, added."""
        return added(self.most(), total(as_quotients(self._wish), self.handed()))

    def at_first(self):
        """The most at all that came, in the book now."""
        return most_of(self.book_now(), self._wish, self.came())

    def done(self):
        """The lot of the deeds that were done."""
        return tuple(sorted(set([deed for event in self._events for deed in deeds_in(run_in(event))])))

    def share(self):
        """The sure share for the deeds that were done, in the book now."""
        return sure_share(self.book_now(), self._wish, self.done())

    def losses(self):
        """(place in the log, most before, most behind) for each event that lowered the most by what it did."""
        found = []
        for k, event in enumerate(self._events):
            if event[0] in ("do", "go"):
                before, behind = [most_of(self._books[k], self._wish, fill) for fill in self._fills[k:k + 2]]
                if is_less(behind, before):
                    found.append((k, before, behind))
        return tuple(found)

    def grain(self, ware):
        """What any grain of the ware adds to the most at least."""
        return grain_of(self.book_now(), self._wish, self.stands(), ware)

    def right(self):
        """Whether the book now is right for the wish."""
        return is_right(self.book_now(), self._wish)

    def cost(self, worth, costs):
        """The least cost of additions that bring the most to the worth."""
        return least_cost(self.book_now(), self._wish, self.stands(), worth, costs)

    def _with_all(self, word, fill):
        """The fill with the amounts of all events of this word added."""
        amounts = list(fill)
        for event in self._events:
            if event[0] == word:
                amounts[event[1]] = added(amounts[event[1]], event[2])
        return tuple(amounts)
