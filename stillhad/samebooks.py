"""Books that say the same, and deeds that a book could do without."""

from stillhad.arithmetic import as_quotients
from stillhad.bookchanges import without_deed
from stillhad.bookchecker import is_book
from stillhad.following import follows
from stillhad.judging import is_numbers, need


def deed_follows(book, take, give):
    """Whether what the deed (take, give) gives follows in the book from what it takes."""
    need(is_numbers(book[0], take), "take")
    need(is_numbers(book[0], give), "give")
    return follows(book, as_quotients(take), as_quotients(give))


def says_same(book, other):
    """Whether in both books the same goals follow from the same fills."""
    return said_apart(book, other) is None


def said_apart(book, other):
    """(0, deed) or (1, deed): the first deed of one book that does not follow in the other; None if all do."""
    need(is_book(other) and other[0] == book[0], "other")
    for which, (one, its) in enumerate(((book, other), (other, book))):
        for deed, (take, give) in enumerate(one[1]):
            if not deed_follows(its, take, give):
                return (which, deed)
    return None


def idle_deeds(book):
    """The lot of deeds each of which follows in the book without this one alone."""
    return tuple([deed for deed in range(len(book[1])) if is_idle(book, deed)])


def is_idle(book, deed):
    """Whether the deed follows in the book without it."""
    take, give = book[1][deed]
    return deed_follows(without_deed(book, deed), take, give)


def core_of(book):
    """The book left when, from the last to the first, each deed that follows in the others is struck."""
    core = book
    for deed in reversed(range(len(book[1]))):
        if is_idle(core, deed):
            core = without_deed(core, deed)
    return core
