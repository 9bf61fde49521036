"""Corners: price rows that are not halfway between others."""

from stillhad.arithmetic import NOUGHT, reduced
from stillhad.bestplans import row_with
from stillhad.books import change_of, within_of
from stillhad.cones import edges_of
from stillhad.judging import need
from stillhad.lots import closed_lots, is_closed
from stillhad.wishes import is_wish


def corners_of(book, wish, lot):
    """All price rows open at just the closed lot that are not halfway between two others of these."""
    need(is_wish(book, wish), "wish")
    need(is_closed(book, lot), "lot")
    return tuple(sorted(edge_rows(book, wish, lot, lot)))


def corner_rows(book, wish):
    """The corners of all closed lots."""
    need(is_wish(book, wish), "wish")
    rows = []
    for lot in closed_lots(book):
        rows.extend(edge_rows(book, wish, lot, lot))
    return tuple(sorted(rows))


def edge_rows(book, wish, lot, free):
    """The corners of the closed lot that are just the wish at all its wares but the free ones.

    What the free prices have above the wish, with one more number by which all is divided in the end,
    makes a cone; its edges with this number above 0 are the corners.
    """
    bounds = []
    for deed in within_of(book, lot):
        costs = [-change for change in change_of(book, deed)]
        bounds.append([costs[ware] for ware in free] + [sum([costs[ware] * wish[ware] for ware in lot])])
    return [
        row_with(wish, lot, prices_above(lot, free, edge))
        for edge in edges_of(len(free) + 1, bounds) if edge[-1] > 0]


def prices_above(lot, free, edge):
    """For each ware of the lot what the edge has at it, divided by its last number; nought unless it is free."""
    above = {ware: reduced(amount, edge[-1]) for ware, amount in zip(free, edge)}
    return [above.get(ware, NOUGHT) for ware in lot]
