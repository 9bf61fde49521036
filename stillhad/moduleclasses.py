"""A module as an object, and read from its line."""

from stillhad.alikes import alike_modules
from stillhad.bookchecker import is_book
from stillhad.booktexts import book_line, wares_text
from stillhad.doormosts import door_each, door_most
from stillhad.doortariffs import door_tariff
from stillhad.errors import InvalidRow
from stillhad.judging import need
from stillhad.makings import makes
from stillhad.modulechecker import is_module
from stillhad.modules import module_of
from stillhad.rightmodules import is_right_module
from stillhad.textparts import is_numeral
from stillhad.textreadings import ENDS, book_in, check_fields, numbers_in, state_behind
from stillhad.twins import twin_of


class Module:
    """A module that never changes."""

    def __init__(self, book, ins, outs):
        need(is_book(book), "book")
        self._module = module_of(book, ins, outs)

    def most(self, weights, amounts):
        """The module's most at the amounts for the weights."""
        return door_most(self._module, weights, amounts)

    def each(self, amounts):
        """For each door the module's most at it."""
        return door_each(self._module, amounts)

    def tariff(self, door):
        """The door tariff of the door."""
        return door_tariff(self._module, door)

    def right(self):
        """Whether the module is right."""
        return is_right_module(self._module)

    def twin(self):
        """The Module of layers of the door tariffs, a right twin."""
        book, ins, outs = twin_of(self._module)
        return Module(book, ins, outs)

    def makes(self, amounts, goal):
        """Whether the module makes the goal from the amounts."""
        return makes(self._module, amounts, goal)

    def like(self, other):
        """Whether other, a Module with as many ins and outs, makes the same goals from the same amounts."""
        need(isinstance(other, Module), "other")
        return alike_modules(self._module, other._module)

    def told(self):
        """The module as a tuple."""
        return self._module

    def line(self):
        """The line of the module: its ins, its outs, its book."""
        book, ins, outs = self._module
        return f"{wares_text(ins)} > {wares_text(outs)} | {book_line(book)}"

    def __eq__(self, other):
        return isinstance(other, Module) and self._module == other._module


def read_module(text):
    """The Module whose line is text."""
    need(isinstance(text, str), "text")
    check_fields(text, "ins", module_state, ENDS)
    doors, line = text.split(" | ")
    ins, outs = doors.split(" > ")
    book = book_in(line)
    made = (book, () if ins == "-" else numbers_in(ins), numbers_in(outs))
    if not is_module(made):
        raise InvalidRow(0)
    return Module(made[0], made[1], made[2])


def module_state(state, word):
    """What stands next in a module's line: behind a word where this state was, or that it is wrong."""
    if state == "ins" and word == "-":
        return "no ins"
    if state in ("no ins", "more ins") and word == ">":
        return "outs"
    if state == "more outs" and word == "|":
        return "size"
    if state in ("ins", "more ins"):
        return "more ins" if is_numeral(word) else "wrong"
    if state in ("outs", "more outs"):
        return "more outs" if is_numeral(word) else "wrong"
    return "wrong" if state == "no ins" else state_behind(state, word)
