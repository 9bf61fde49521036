"""A trimmed tariff as an object."""

from stillhad.errors import NotUsable
from stillhad.judging import need
from stillhad.kinds import is_fill, is_lot, is_number, is_row
from stillhad.partings import tariffs_apart
from stillhad.spots import spot_of
from stillhad.tariffkinds import least_of
from stillhad.tariffsums import cut_to, tariff_less, tariff_plus, trimmed_of


class Tariff:
    """A trimmed tariff over many things, which never changes."""

    def __init__(self, many, *rows):
        need(is_number(many), "many")
        for k, row in enumerate(rows):
            if not is_row(many, row):
                raise NotUsable("rows", k)
        self._many = many
        self._rows = trimmed_of(list(rows))

    def told(self):
        """The pair (many, trimmed tariff)."""
        return (self._many, self._rows)

    def least(self, fill):
        """The least that a row tells at the fill, endless if there are no rows."""
        need(is_fill(self._many, fill), "fill")
        return least_of(self._rows, fill)

    def spot(self, place):
        """Any spot of the row at place."""
        return spot_of(self._rows, place)

    def plus(self, other):
        """The Tariff whose least is the sum of both leasts."""
        self._need_like(other)
        rows = tariff_plus(self._rows, other._rows)
        return Tariff(self._many, *rows)

    def less(self, other):
        """The Tariff whose least is the less of both leasts."""
        self._need_like(other)
        rows = tariff_less(self._rows, other._rows)
        return Tariff(self._many, *rows)

    def cut(self, lot):
        """The Tariff over the things of the lot, with nought elsewhere."""
        need(is_lot(self._many, lot), "lot")
        rows = cut_to(self._rows, lot)
        return Tariff(len(lot), *rows)

    def apart(self, other):
        """Any fill at which the leasts are unlike, None if there is none."""
        self._need_like(other)
        return tariffs_apart(self._rows, other._rows)

    def __eq__(self, other):
        return isinstance(other, Tariff) and self._many == other._many and self._rows == other._rows

    def __len__(self):
        return len(self._rows)

    def _need_like(self, other):
        """Refuse what is no Tariff over as many things."""
        need(isinstance(other, Tariff) and other._many == self._many, "other")
