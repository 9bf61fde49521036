"""Events and logs of the live store."""

from stillhad.bookchecker import is_deed
from stillhad.judging import is_above, is_pair, is_place
from stillhad.kinds import is_number
from stillhad.runkinds import is_run_among, is_step_among


def is_event(size, thing):
    """Whether thing is an event of the size."""
    if not isinstance(thing, tuple) or thing == ():
        return False
    word = thing[0]
    parts = thing[1:]
    if word in ("bring", "hand"):
        return is_pair(parts) and is_place(size, parts[0]) and is_above(parts[1])
    if word == "do":
        return is_step_among(None, parts)
    if word == "go":
        return len(parts) == 1 and is_run_among(None, parts[0])
    if word == "learn":
        return is_deed(size, parts)
    return word == "day" and parts == ()


def is_log(size, thing):
    """Whether thing is a log of the size."""
    return isinstance(thing, tuple) and all([is_event(size, event) for event in thing])


def is_any_event(thing):
    """Whether thing is an event of some size."""
    return is_event(likely_size(thing), thing)


def likely_size(thing):
    """A size that thing is an event of, if it is one of any size."""
    if not (isinstance(thing, tuple) and len(thing) > 1):
        return 1
    if is_number(thing[1]):
        return thing[1] + 1
    return max(1, len(thing[1])) if isinstance(thing[1], tuple) else 1
