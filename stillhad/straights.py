"""Straight fluxes: those that one lap of many turns does."""

from stillhad.arithmetic import reduced, tops_over
from stillhad.judging import need, need_fill, need_flux
from stillhad.rowsums import support_of
from stillhad.stepping import amounts_by


def is_straight(book, fill, flux):
    """Whether by the flux the fill lacks nowhere, and all that is taken is there before and behind."""
    need_fill(book, fill)
    need_flux(book, flux)
    behind = amounts_by(book, fill, flux)[1]
    # What is not taken can't be lacking, so what is taken tells of all wares.
    return all([fill[ware][0] > 0 and behind[ware] > 0 for ware in taken_by(book, flux)])


def taken_by(book, flux):
    """The lot of wares that the deeds of the flux take."""
    takes = [book[1][deed][0] for deed in support_of(flux)]
    return tuple([ware for ware in range(book[0]) if any([take[ware] > 0 for take in takes])])


def straight_run(book, fill, flux):
    """Any run that can be done at the fill and has just this flux, which is straight."""
    need(is_straight(book, fill, flux), "flux")
    deeds = support_of(flux)
    if deeds == ():
        return ()
    turns = enough_turns(book, fill, flux)
    return ((turns, tuple([(deed, reduced(flux[deed][0], flux[deed][1] * turns)) for deed in deeds])),)


def enough_turns(book, fill, flux):
    """So many turns that the first and the last one can be done, whatever the sequence of their steps.

    For the first one the fill must have all that a turn takes; for the last one the fill behind it
    must have all that a turn gives.
    """
    bottom, behind = amounts_by(book, fill, flux)
    before = tops_over(fill, bottom)
    many = tops_over(flux, bottom)
    turns = 1
    for ware in taken_by(book, flux):
        taken = sum([number * deed[0][ware] for number, deed in zip(many, book[1])])
        given = sum([number * deed[1][ware] for number, deed in zip(many, book[1])])
        turns = max(turns, -(-taken // before[ware]), -(-given // behind[ware]))
    return turns
