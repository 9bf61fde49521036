"""Which values are deeds and books."""

from stillhad.errors import InvalidPaper
from stillhad.judging import is_numbers, is_pair, is_whole


def is_deed(size, thing):
    """Whether thing is a deed of the size."""
    return is_pair(thing) and is_numbers(size, thing[0]) and is_numbers(size, thing[1])


def check_deed(size, deed, place):
    """Raise InvalidPaper for the first fault of the deed at this place."""
    if not is_pair(deed):
        raise InvalidPaper("shape", place)
    if not is_numbers(size, deed[0]):
        raise InvalidPaper("take", place)
    if not is_numbers(size, deed[1]):
        raise InvalidPaper("give", place)


def lets_book(thing):
    """Check that thing is a book; how many deeds it has."""
    if not is_pair(thing):
        raise InvalidPaper("shape", -1)
    size, deeds = thing
    if not is_whole(size):
        raise InvalidPaper("size", -1)
    if not isinstance(deeds, tuple):
        raise InvalidPaper("deeds", -1)
    for place, deed in enumerate(deeds):
        check_deed(size, deed, place)
    return len(deeds)


def is_book(thing):
    """Whether thing is a book."""
    if not (is_pair(thing) and is_whole(thing[0]) and isinstance(thing[1], tuple)):
        return False
    return all([is_deed(thing[0], deed) for deed in thing[1]])
