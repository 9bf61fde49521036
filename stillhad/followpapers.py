"""Papers of what follows: a flux that leads to the goal, or a row that bars it."""

from stillhad.arithmetic import is_less, total
from stillhad.bestplans import goal_plan
from stillhad.errors import InvalidPaper
from stillhad.fluxpapers import check_within
from stillhad.judging import is_pair, need_fill, need_goal
from stillhad.kinds import is_row
from stillhad.openings import opening_of
from stillhad.pricepapers import check_rises
from stillhad.rowsums import first_above, support_of
from stillhad.stepping import amounts_by


def follow_paper(book, fill, goal):
    """Any triple ("flux", opening, flux) if the goal follows from the fill, else any pair ("row", row)."""
    need_fill(book, fill)
    need_goal(book, goal)
    flux, row = goal_plan(book, fill, goal)[1:]
    if row is not None:
        return ("row", row)
    return ("flux", opening_of(book, support_of(fill)), flux)


def lets_follow(book, fill, goal, thing):
    """Check such a triple or pair; whether it is a triple."""
    need_fill(book, fill)
    need_goal(book, goal)
    if is_pair(thing) and thing[0] == "row":
        check_bar(book, fill, goal, thing[1])
        return False
    if not (isinstance(thing, tuple) and len(thing) == 3 and thing[0] == "flux"):
        raise InvalidPaper("shape", -1)
    check_way(book, fill, goal, thing[1], thing[2])
    return True


def check_way(book, fill, goal, opening, flux):
    """Check that by the flux, behind the opening, the fill comes to the goal at least."""
    check_within(book, fill, opening, flux)
    bottom, amounts = amounts_by(book, fill, flux)
    ware = first_above(goal, [(amount, bottom) for amount in amounts])
    if ware is not None:
        raise InvalidPaper("lacks", ware)


def check_bar(book, fill, goal, row):
    """Check that the row never rises and tells more at the goal than at the fill."""
    if not is_row(book[0], row):
        raise InvalidPaper("row", -1)
    check_rises(book, row)
    if not is_less(total(row, fill), total(row, goal)):
        raise InvalidPaper("even", -1)
