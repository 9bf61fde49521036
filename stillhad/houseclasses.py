"""A house as an object."""

from stillhad.doortariffs import door_tariffs
from stillhad.houses import flat_of, house_fill, house_of, house_wish, with_module
from stillhad.judging import need
from stillhad.linking import linked_most
from stillhad.moduleclasses import Module
from stillhad.mosts import most_of
from stillhad.ways import is_safe
from stillhad.wiringchecker import is_wiring


class House:
    """A house that never changes."""

    def __init__(self, wiring, *modules):
        need(is_wiring(wiring), "wiring")
        self._house = house_of(wiring, *modules)

    def most(self, weights, fill):
        """The most of the house, flat, with this fill of its wires."""
        wish = house_wish(self._house, weights)
        return most_of(flat_of(self._house)[0], wish, house_fill(self._house, fill))

    def linked(self, weights, fill):
        """The linked most by the modules' door tariffs."""
        wiring, modules = self._house
        return linked_most(wiring, tuple([door_tariffs(module) for module in modules]), weights, fill)

    def flat(self):
        """The house flat, as a Module."""
        book, ins, outs = flat_of(self._house)
        return Module(book, ins, outs)

    def safe(self):
        """Whether the wiring is safe."""
        return is_safe(self._house[0])

    def swap(self, seat, module):
        """The House with this module on the seat."""
        wiring, modules = with_module(self._house, seat, module)
        return House(wiring, *modules)

    def told(self):
        """The house as a tuple."""
        return self._house

    def __eq__(self, other):
        return isinstance(other, House) and self._house == other._house
