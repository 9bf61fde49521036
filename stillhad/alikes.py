"""Alike modules: those that make the same goals from the same amounts."""

from stillhad.doormosts import door_most
from stillhad.errors import InvalidPaper
from stillhad.excesses import excess
from stillhad.judging import is_pair, is_weights, need
from stillhad.kinds import is_fill
from stillhad.modulechecker import is_module_like


def alike_modules(module, other):
    """Whether both modules make the same goals from the same amounts, whatever these are."""
    return modules_apart(module, other) is None


def modules_apart(module, other):
    """Any (amounts, weights) at which the mosts of the modules are unlike, None if they are alike."""
    need(is_module_like(module, other), "other")
    # What is made is told by the mosts for all weights, so one of both has more somewhere.
    found = excess(module, other)
    return excess(other, module) if found is None else found


def lets_apart(module, other, thing):
    """Check that thing is such a pair; both mosts there."""
    need(is_module_like(module, other), "other")
    if not is_pair(thing):
        raise InvalidPaper("shape", -1)
    amounts, weights = thing
    if not is_fill(len(module[1]), amounts):
        raise InvalidPaper("amounts", -1)
    if not is_weights(len(module[2]), weights):
        raise InvalidPaper("weights", -1)
    mosts = (door_most(module, weights, amounts), door_most(other, weights, amounts))
    if mosts[0] == mosts[1]:
        raise InvalidPaper("alike", -1)
    return mosts
