"""What follows from a fill, and runs that come near a goal."""

from stillhad.arithmetic import is_less
from stillhad.bestplans import goal_plan
from stillhad.errors import Barred
from stillhad.judging import is_above, need, need_fill, need_goal
from stillhad.quotients import minus
from stillhad.rowsums import fill_times
from stillhad.runfors import opened_run


def follows(book, fill, goal):
    """Whether the goal follows from the fill."""
    need_fill(book, fill)
    need_goal(book, goal)
    return goal_plan(book, fill, goal)[2] is None


def stretch_of(book, fill, goal):
    """The greatest quotient such that the goal times it follows, endless if there is none."""
    need_fill(book, fill)
    need_goal(book, goal)
    return goal_plan(book, fill, goal)[0]


def goal_run(book, fill, goal, near):
    """Any run that can be done at the fill and ends with the goal, but for this part of it."""
    need_fill(book, fill)
    need_goal(book, goal)
    need(is_above(near) and is_less(near, (1, 1)), "near")
    flux, row = goal_plan(book, fill, goal)[1:]
    if row is not None:
        raise Barred(row)
    return opened_run(book, fill, near, fill_times(flux, minus((1, 1), near)))
