"""How the most grows as more and more of one ware is added."""

from stillhad.arithmetic import NOUGHT, added, is_less, multiplied, total
from stillhad.judging import need, need_fill, need_ware
from stillhad.quotients import minus, over
from stillhad.rowsums import is_open_at, lots_together, support_of
from stillhad.tariffs import tariff_of
from stillhad.wishes import is_wish


def course_of(book, wish, fill, ware):
    """The straight pieces (start, most, slope) by which the most grows, behind a leap; () if it is endless."""
    need(is_wish(book, wish), "wish")
    need_fill(book, fill)
    need_ware(book, ware)
    things = lots_together(support_of(fill), (ware,))
    lines = [(total(row, fill), row[ware]) for row in tariff_of(book, wish) if is_open_at(row, things)]
    if not lines:
        return ()
    most, slope = first_of(lines)
    pieces = [(NOUGHT, most, slope)]
    crossings = crossings_behind(lines, pieces[-1])
    while crossings:
        pieces.append(first_of(crossings))
        crossings = crossings_behind(lines, pieces[-1])
    return tuple(pieces)


def first_of(tuples):
    """The first of the tuples of quotients, as quotients go."""
    first = tuples[0]
    for one in tuples:
        if is_ahead(one, first):
            first = one
    return first


def is_ahead(one, other):
    """Whether, at the first place at which both tuples differ, one has the less quotient."""
    for mine, its in zip(one, other):
        if mine != its:
            return is_less(mine, its)
    return False


def crossings_behind(lines, piece):
    """Where the lines that are less steep than the piece cross it: (start, most, slope) for each.

    At the first of them the most is the same on all, so of those alike in start the least steep one is first.
    """
    start, most, slope = piece
    found = []
    for base, steep in lines:
        if is_less(steep, slope):
            # What the line is above the piece at its start, divided by what it loses with each one more.
            above = minus(added(base, multiplied(steep, start)), most)
            more = over(above, minus(slope, steep))
            found.append((added(start, more), added(most, multiplied(slope, more)), steep))
    return found
