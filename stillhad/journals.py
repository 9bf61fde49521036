"""Logs done again, cut, and told day by day."""

from stillhad.arithmetic import NOUGHT, added, multiplied
from stillhad.judging import is_place, need
from stillhad.live import LiveStore
from stillhad.liveevents import is_log


def replayed(book, wish, fill, log):
    """The LiveStore with the events of the log done."""
    store = LiveStore(book, wish, fill)
    need(is_log(book[0], log), "log")
    store.do_all(log)
    return store


def cut_log(log, many):
    """The first events of the log, so many, and the others."""
    need(isinstance(log, tuple), "log")
    need(is_place(len(log) + 1, many), "many")
    return (log[:many], log[many:])


def days_of(book, wish, fill, log):
    """For each day the most at its end, and the worth handed out on it."""
    store = LiveStore(book, wish, fill)
    need(is_log(book[0], log), "log")
    days = []
    worth = NOUGHT
    for event in log:
        store.event(event)
        if event[0] == "hand":
            worth = added(worth, multiplied(event[2], (wish[event[1]], 1)))
        if event[0] == "day":
            days.append((store.most(), worth))
            worth = NOUGHT
    return tuple(days)
