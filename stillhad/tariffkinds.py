"""Tariffs, and the least of their rows."""

from stillhad.arithmetic import least_price, total
from stillhad.judging import need
from stillhad.kinds import is_ascending, is_fill, is_lot, is_number, is_row


def is_tariff(many, thing):
    """Whether thing is a tariff over so many things."""
    need(is_number(many), "many")
    if not (isinstance(thing, tuple) and all([is_row(many, row) for row in thing])):
        return False
    return all([low < high for low, high in zip(thing, thing[1:])])


def is_any_tariff(thing):
    """Whether thing is a tariff over any number of things."""
    if thing == ():
        return True
    return isinstance(thing, tuple) and isinstance(thing[0], tuple) and is_tariff(len(thing[0]), thing)


def is_tariff_like(rows, thing):
    """Whether thing is a tariff over as many things as rows, over any number if one of both is ()."""
    if not is_any_tariff(thing):
        return False
    return rows == () or thing == () or len(rows[0]) == len(thing[0])


def is_fill_for(rows, thing):
    """Whether thing is a fill of the things that rows are over, of any number if rows is ()."""
    return isinstance(thing, tuple) and is_fill(len(rows[0]) if rows else len(thing), thing)


def is_row_for(rows, thing):
    """Whether thing is a row over the things that rows are over, over any number if rows is ()."""
    return isinstance(thing, tuple) and is_row(len(rows[0]) if rows else len(thing), thing)


def is_lot_for(rows, thing):
    """Whether thing is a lot of the things that rows are over, of any numbers if rows is ()."""
    return is_lot(len(rows[0]), thing) if rows else is_ascending(thing)


def least_of(rows, fill):
    """The least that a row tells at the fill, endless if there are no rows."""
    need(is_fill_for(rows, fill), "fill")
    return least_price([total(row, fill) for row in rows])


def told_by(rows, fill):
    """The lot of places of the rows that tell the least at the fill, () if it is endless."""
    least = least_of(rows, fill)
    if least[1] == 0:
        return ()
    return tuple([place for place, row in enumerate(rows) if total(row, fill) == least])


def least_at(rows, row):
    """The least of rows at amounts that may be endless, the prices of row."""
    need(is_row_for(rows, row), "row")
    return least_price([total(own, row) for own in rows])
