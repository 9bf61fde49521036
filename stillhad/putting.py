"""Tariffs put into a tariff."""

from stillhad.arithmetic import NOUGHT
from stillhad.judging import need
from stillhad.kinds import is_number
from stillhad.rowsums import all_added, all_times
from stillhad.tariffkinds import is_any_tariff, is_tariff
from stillhad.tariffsums import trimmed_of


def put_in(many, rows, tariffs):
    """The trimmed tariff, over so many things, of the least of rows at the leasts of the tariffs."""
    need(is_number(many), "many")
    need(is_any_tariff(rows), "rows")
    need(are_tariffs_for(many, rows, tariffs), "tariffs")
    mixed = []
    for row in rows:
        mixed.extend(choices_of(many, row, tariffs))
    return trimmed_of(mixed)


def are_tariffs_for(many, rows, thing):
    """Whether thing is a tuple of tariffs over so many things, one for each price of a row of rows."""
    if not (isinstance(thing, tuple) and all([is_tariff(many, one) for one in thing])):
        return False
    return rows == () or len(thing) == len(rows[0])


def choices_of(many, row, tariffs):
    """For each choice of a row of each tariff, the sum of these rows, each times the row's price at the tariff.

    A tariff at a price of nought counts for nothing, even where its least is endless.
    """
    sums = [(NOUGHT,) * many]
    for price, tariff in zip(row, tariffs):
        if price != NOUGHT:
            parts = [all_times(own, price) for own in tariff]
            sums = [all_added(one, part) for one in sums for part in parts]
    return sums
