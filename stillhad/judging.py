"""What is asked of parameters, and the refusal of those that are not as stated."""

from stillhad.errors import NotUsable
from stillhad.kinds import is_fill, is_integer, is_lot, is_number, is_quotient, is_row


def need(good, word):
    """Raise NotUsable for the parameter called word unless it is good."""
    if not good:
        raise NotUsable(word, -1)


def is_pair(thing):
    """Whether thing is a tuple of two values."""
    return isinstance(thing, tuple) and len(thing) == 2


def is_whole(thing):
    """Whether thing is an integer of at least 1."""
    return is_integer(thing) and thing >= 1


def is_above(thing):
    """Whether thing is a quotient above nought."""
    return is_quotient(thing) and thing[0] > 0


def is_place(many, thing):
    """Whether thing is one of the numbers below many."""
    return is_number(thing) and thing < many


def is_numbers(many, thing):
    """Whether thing is a tuple of as many numbers."""
    return isinstance(thing, tuple) and len(thing) == many and all([is_number(one) for one in thing])


def is_weights(many, thing):
    """Whether thing is a tuple of as many numbers, not all 0."""
    return is_numbers(many, thing) and any([weight > 0 for weight in thing])


def is_order(many, thing):
    """Whether thing is a tuple of all numbers below many, each once."""
    return is_numbers(many, thing) and sorted(thing) == list(range(many))


def need_deed(book, deed):
    """Refuse what is no place of a deed of the book."""
    need(is_place(len(book[1]), deed), "deed")


def need_ware(book, ware):
    """Refuse what is no ware of the book."""
    need(is_place(book[0], ware), "ware")


def need_lot(book, lot):
    """Refuse what is no lot of wares of the book."""
    need(is_lot(book[0], lot), "lot")


def need_fill(book, fill):
    """Refuse what is no fill of the book's size."""
    need(is_fill(book[0], fill), "fill")


def need_goal(book, goal):
    """Refuse what is no fill of the book's size as a goal."""
    need(is_fill(book[0], goal), "goal")


def need_row(book, row):
    """Refuse what is no row of the book's size."""
    need(is_row(book[0], row), "row")


def need_hands(book, hands):
    """Refuse what is no lot of deeds of the book."""
    need(is_lot(len(book[1]), hands), "hands")


def need_flux(book, flux):
    """Refuse what has not a quotient for each deed of the book."""
    need(is_fill(len(book[1]), flux), "flux")
