"""Why an event can't be done."""

from stillhad.arithmetic import is_less
from stillhad.judging import need, need_fill
from stillhad.liveevents import is_event
from stillhad.running import stuck_at
from stillhad.traps import touches
from stillhad.wishes import is_wish, wished_wares


def reason_of(book, wish, fill, event):
    """The first reason why the event can't be done at the fill, None if there is none."""
    need(is_wish(book, wish), "wish")
    need_fill(book, fill)
    if not is_event(book[0], event):
        return "shape"
    wares = wished_wares(book, wish)
    if event[0] == "hand":
        return hand_reason(wares, fill, event[1], event[2])
    if event[0] == "learn" and touches(event[1], wares):
        return "wished"
    run = run_in(event)
    if not all([deed < len(book[1]) for deed in deeds_in(run)]):
        return "deed"
    if stuck_at(book, fill, run) is not None:
        return "amount"
    return None


def hand_reason(wares, fill, ware, amount):
    """The first reason why so much of the ware can't be handed out, by the wished wares; None if there is none."""
    if ware not in wares:
        return "ware"
    return "amount" if is_less(fill[ware], amount) else None


def run_in(event):
    """The run that the event does."""
    if event[0] == "do":
        return ((1, ((event[1], event[2]),)),)
    return event[1] if event[0] == "go" else ()


def deeds_in(run):
    """A list of the deeds of all steps of the run."""
    return [deed for turns, steps in run for deed, times in steps]
