"""Books made of books."""

from stillhad.bookchecker import is_book
from stillhad.books import within_of
from stillhad.judging import is_numbers, is_order, is_whole, need, need_deed


def with_deed(book, take, give):
    """The book with the deed (take, give) as the last one."""
    size, deeds = book
    need(is_numbers(size, take), "take")
    need(is_numbers(size, give), "give")
    return (size, deeds + ((take, give),))


def without_deed(book, deed):
    """The book without the deed."""
    need_deed(book, deed)
    size, deeds = book
    return (size, deeds[:deed] + deeds[deed + 1:])


def with_all(book, other):
    """The book with all deeds of other, a book of the same size, behind."""
    need(is_book(other) and other[0] == book[0], "other")
    return (book[0], book[1] + other[1])


def kept_to(book, lot):
    """The book of the deeds within the lot."""
    return (book[0], tuple([book[1][place] for place in within_of(book, lot)]))


def scaled(book, deed, many):
    """The book with take and give of the deed multiplied by many."""
    need_deed(book, deed)
    need(is_whole(many), "many")
    size, deeds = book
    take, give = deeds[deed]
    grown = (tuple([many * number for number in take]), tuple([many * number for number in give]))
    return (size, deeds[:deed] + (grown,) + deeds[deed + 1:])


def renamed(book, order):
    """The book in which ware i has the number order[i]."""
    size, deeds = book
    need(is_order(size, order), "order")
    old = [order.index(ware) for ware in range(size)]
    return (size, tuple([
        (tuple([take[ware] for ware in old]), tuple([give[ware] for ware in old])) for take, give in deeds]))


def shuffled(book, places):
    """The book with deed places[k] at place k."""
    size, deeds = book
    need(is_order(len(deeds), places), "places")
    return (size, tuple([deeds[place] for place in places]))


def beside(book, other):
    """The book with the wares and deeds of other, a book of any size, behind its own."""
    need(is_book(other), "other")
    ahead = (0,) * book[0]
    behind = (0,) * other[0]
    own = tuple([(take + behind, give + behind) for take, give in book[1]])
    more = tuple([(ahead + take, ahead + give) for take, give in other[1]])
    return (book[0] + other[0], own + more)


def turned_about(book):
    """The book with take and give of each deed changed about."""
    return (book[0], tuple([(give, take) for take, give in book[1]]))
