"""Rest, ranks, and the run that leads a ranked book to rest."""

from stillhad.judging import need, need_fill
from stillhad.stepping import after_step, can_do, most_times
from stillhad.wishes import above_of


def at_rest(book, fill):
    """Whether no deed can be done at the fill."""
    need_fill(book, fill)
    return not any([can_do(book, fill, deed) for deed in range(len(book[1]))])


def ranks_of(book):
    """The least ranks of the book, None if it is not ranked."""
    size, deeds = book
    if not all([above_of(take) for take, give in deeds]):
        return None
    ranks = (0,) * size
    # Ranks of a ranked book stand still after fewer rounds than there are wares.
    for _ in range(size):
        lifted = lifted_ranks(deeds, ranks)
        if lifted == ranks:
            return ranks
        ranks = lifted
    return None


def lifted_ranks(deeds, ranks):
    """The ranks that lie above those of all that is given for a ware, as these ranks have them."""
    lifted = list(ranks)
    for take, give in deeds:
        bound = max([ranks[ware] + 1 for ware in above_of(give)], default=0)
        for ware in above_of(take):
            lifted[ware] = max(lifted[ware], bound)
    return tuple(lifted)


def rest_order(book):
    """All deeds, in the sequence of the least rank that they take, the greatest first."""
    ranks = ranks_of(book)
    need(ranks is not None, "book")
    lows = [min([ranks[ware] for ware in above_of(take)]) for take, give in book[1]]
    # Ranks are made negative so that deeds alike in rank stay in the sequence of their places.
    ranked = sorted([(-low, place) for place, low in enumerate(lows)])
    return tuple([pair[1] for pair in ranked])


def rest_run(book, fill):
    """The run that does each deed in the rest order, as far as it goes by then."""
    order = rest_order(book)
    need_fill(book, fill)
    now = fill
    laps = []
    for deed in order:
        if can_do(book, now, deed):
            times = most_times(book, now, deed)
            laps.append((1, ((deed, times),)))
            now = after_step(book, now, deed, times)
    return tuple(laps)
