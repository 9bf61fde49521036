"""Modules, and what can be told of their doors."""

from stillhad.arithmetic import numbers_at, placed
from stillhad.errors import NotUsable
from stillhad.judging import is_order, is_weights, need
from stillhad.kinds import is_fill
from stillhad.modulechecker import door_fault

DOORS = {"in": "ins", "ins": "ins", "out": "outs", "outs": "outs"}


def module_of(book, ins, outs):
    """The module (book, ins, outs)."""
    fault = door_fault(book, ins, outs)
    if fault is not None:
        raise NotUsable(DOORS[fault[0]], fault[1])
    return (book, ins, outs)


def inner_of(module):
    """The lot of the inner wares."""
    book, ins, outs = module
    return tuple([ware for ware in range(book[0]) if ware not in ins + outs])


def module_fill(module, amounts):
    """The module's fill by the amounts: they are at the ins, and nought elsewhere."""
    book, ins, outs = module
    need(is_fill(len(ins), amounts), "amounts")
    return placed(book[0], ins, amounts)


def module_wish(module, weights):
    """The wish with the weights at the outs and 0 elsewhere."""
    book, ins, outs = module
    need(is_weights(len(outs), weights), "weights")
    return numbers_at(book[0], {ware: weight for ware, weight in zip(outs, weights)})


def goal_fill(module, goal):
    """The fill with the goal at the outs and nought elsewhere."""
    book, ins, outs = module
    need(is_fill(len(outs), goal), "goal")
    return placed(book[0], outs, goal)


def doors_turned(module, in_order, out_order):
    """The module of the same book whose in k is the old in number in_order[k], its outs likewise."""
    book, ins, outs = module
    need(is_order(len(ins), in_order), "in_order")
    need(is_order(len(outs), out_order), "out_order")
    return (book, tuple([ins[k] for k in in_order]), tuple([outs[k] for k in out_order]))
