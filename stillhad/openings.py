"""Openings of lots, and runs that do them."""

from stillhad.arithmetic import least_price, multiplied, reduced
from stillhad.books import is_within
from stillhad.errors import InvalidPaper
from stillhad.judging import is_above, is_place, need, need_fill, need_lot
from stillhad.lots import closed_from
from stillhad.rowsums import support_of
from stillhad.stepping import after_step, most_times


def opening_of(book, lot):
    """Any opening of the lot."""
    need_lot(book, lot)
    now = lot
    opening = []
    deed = next_opener(book, now)
    while deed is not None:
        opening.append(deed)
        now = with_given(now, book[1][deed][1])
        deed = next_opener(book, now)
    return tuple(opening)


def next_opener(book, lot):
    """The first deed within the lot that gives something outside it, None if there is none."""
    for place, (take, give) in enumerate(book[1]):
        if is_within(take, lot) and not is_within(give, lot):
            return place
    return None


def with_given(lot, give):
    """The lot with the wares at which give is above 0."""
    return tuple([ware for ware, number in enumerate(give) if number > 0 or ware in lot])


def lets_opening(book, lot, thing):
    """Check that thing is an opening of the lot; the closed lot from it."""
    need_lot(book, lot)
    if not isinstance(thing, tuple):
        raise InvalidPaper("shape", -1)
    now = lot
    for k, deed in enumerate(thing):
        if not is_place(len(book[1]), deed) or deed in thing[:k]:
            raise InvalidPaper("deed", k)
        take, give = book[1][deed]
        if not is_within(take, now):
            raise InvalidPaper("shut", k)
        if is_within(give, now):
            raise InvalidPaper("idle", k)
        now = with_given(now, give)
    if now != closed_from(book, lot):
        raise InvalidPaper("open", -1)
    return now


def opening_run(book, fill, near):
    """Any run that brings all of the closed lot above nought and changes no amount by more than near."""
    need_fill(book, fill)
    need(is_above(near), "near")
    opening = opening_of(book, support_of(fill))
    if opening == ():
        return ()
    now = fill
    steps = []
    for deed in opening:
        times = small_times(book, now, deed, reduced(near[0], near[1] * len(opening)))
        steps.append((deed, times))
        now = after_step(book, now, deed, times)
    return ((1, tuple(steps)),)


def small_times(book, fill, deed, near):
    """Times with which the deed uses nothing up and changes no amount by more than near."""
    take, give = book[1][deed]
    largest = max(take + give)
    half = multiplied(most_times(book, fill, deed), (1, 2))
    return least_price([half, reduced(near[0], near[1] * largest)])
