"""Wishes and worths."""

from stillhad.arithmetic import as_quotients, total
from stillhad.books import end_wares
from stillhad.judging import is_numbers, need, need_fill
from stillhad.kinds import is_integer


def is_wish(book, thing):
    """Whether thing is a wish of the book."""
    if not is_numbers(book[0], thing):
        return False
    wished = above_of(thing)
    ends = end_wares(book)
    return wished != () and all([ware in ends for ware in wished])


def above_of(numbers):
    """The lot of wares at which the numbers are above 0."""
    return tuple([ware for ware, number in enumerate(numbers) if number > 0])


def unit_wish(book, ware):
    """The wish that is 1 at the end ware and 0 elsewhere."""
    need(is_integer(ware) and ware in end_wares(book), "ware")
    return tuple([1 if ware == place else 0 for place in range(book[0])])


def wished_wares(book, wish):
    """The lot of the wished wares."""
    need(is_wish(book, wish), "wish")
    return above_of(wish)


def worth_of(book, wish, fill):
    """The worth of the fill: the sum of its amounts times the wish."""
    need(is_wish(book, wish), "wish")
    need_fill(book, fill)
    return total(as_quotients(wish), fill)
