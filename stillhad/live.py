"""The live store."""

from stillhad.arithmetic import placed
from stillhad.bookchanges import with_deed
from stillhad.errors import InvalidEvent, NothingToUndo
from stillhad.judging import need
from stillhad.kinds import is_number
from stillhad.liveasks import LiveAsks
from stillhad.reasons import reason_of, run_in
from stillhad.rowsums import fill_minus, fill_plus
from stillhad.running import end_of


class LiveStore(LiveAsks):
    """A store with its first book and fill, and events."""

    def __init__(self, book, wish, fill):
        super().__init__(book, wish, fill)

    def bring(self, ware, amount):
        """Add the amount of the ware."""
        self.event(("bring", ware, amount))

    def do(self, deed, times):
        """Do the step (deed, times)."""
        self.event(("do", deed, times))

    def go(self, run):
        """Do the run."""
        self.event(("go", run))

    def hand(self, ware, amount):
        """Hand out the amount of the ware."""
        self.event(("hand", ware, amount))

    def learn(self, take, give):
        """Put the deed (take, give) behind all others of the book."""
        self.event(("learn", take, give))

    def day(self):
        """End a day."""
        self.event(("day",))

    def event(self, event):
        """Do the event."""
        reason = self.barred(event)
        if reason is not None:
            raise InvalidEvent(event, reason)
        self._take(event)

    def barred(self, event):
        """The reason why the event can't be done now, None if there is none."""
        return reason_of(self._books[-1], self._wish, self._fills[-1], event)

    def do_all(self, events, keep=False):
        """Do the events in sequence; those ahead of one that can't be done stay done only if keep is True."""
        need(isinstance(events, tuple), "events")
        for k, event in enumerate(events):
            reason = self.barred(event)
            if reason is not None:
                if keep is not True:
                    self.undo(k)
                raise InvalidEvent(event, reason)
            self._take(event)

    def undo(self, steps=1):
        """Undo the last events, so many."""
        need(is_number(steps), "steps")
        left = len(self._events) - steps
        if left < 0:
            raise NothingToUndo(steps)
        self._events = self._events[:left]
        self._books = self._books[:left + 1]
        self._fills = self._fills[:left + 1]

    def tried(self, events):
        """The fill that the events would leave."""
        self.do_all(events)
        fill = self._fills[-1]
        self.undo(len(events))
        return fill

    def log(self):
        """The log of all that was done and not undone."""
        return tuple(self._events)

    def __eq__(self, other):
        return (isinstance(other, LiveStore) and self._books[-1] == other._books[-1] and self._wish == other._wish
                and self._fills[-1] == other._fills[-1] and self._events == other._events)

    def _take(self, event):
        """Do the event, which can be done."""
        book, fill = behind_event(self._books[-1], self._fills[-1], event)
        self._events.append(event)
        self._books.append(book)
        self._fills.append(fill)


def behind_event(book, fill, event):
    """(book, fill) behind the event, which can be done."""
    if event[0] == "learn":
        return (with_deed(book, event[1], event[2]), fill)
    if event[0] == "bring":
        return (book, fill_plus(fill, placed(book[0], [event[1]], [event[2]])))
    if event[0] == "hand":
        return (book, fill_minus(fill, placed(book[0], [event[1]], [event[2]])))
    return (book, end_of(book, fill, run_in(event)))
