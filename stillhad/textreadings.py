"""Prices, rows, fills and books read from their texts."""

from stillhad.bookchecker import is_book
from stillhad.errors import InvalidRow, InvalidText
from stillhad.judging import need
from stillhad.textparts import cut_mark, is_numeral, is_price_word, is_quotient_word, price_of_word

# Where a book's line may end.
ENDS = ("end", "giving")


def read_price(text):
    """The price whose price_text is text."""
    need(isinstance(text, str), "text")
    fields = text.split(" ")
    if not is_price_word(fields[0]):
        raise InvalidText(0, 0)
    if len(fields) > 1:
        raise InvalidText(0, 1)
    return price_of_word(fields[0])


def read_row(text):
    """The row whose row_line is text."""
    need(isinstance(text, str), "text")
    fields = text.split(" ")
    return prices_of(fields, [is_price_word(field) for field in fields])


def read_fill(text):
    """The fill whose fill_line is text."""
    need(isinstance(text, str), "text")
    fields = text.split(" ")
    return prices_of(fields, [is_quotient_word(field) for field in fields])


def prices_of(fields, fits):
    """The prices of the fields, each of which must fit; none for a dash alone."""
    if fields[0] == "-":
        if len(fields) > 1:
            raise InvalidText(0, 1)
        return ()
    for k, good in enumerate(fits):
        if not good:
            raise InvalidText(0, k)
    return tuple([price_of_word(field) for field in fields])


def read_book(text):
    """The book whose book_line is text."""
    need(isinstance(text, str), "text")
    check_fields(text, "size", state_behind, ENDS)
    book = book_in(text)
    if not is_book(book):
        raise InvalidRow(0)
    return book


def check_fields(text, begin, behind, ends):
    """Raise InvalidText for the first field that no good text has there, or if it ends too soon.

    What stands next is a state, at first begin; behind tells it from the one before and the word there.
    """
    fields = text.split(" ")
    state = begin
    for k, word in enumerate(fields):
        state = behind(state, word)
        if state == "wrong":
            raise InvalidText(0, k)
    if state not in ends:
        raise InvalidText(0, len(fields))


def state_behind(state, word):
    """What stands next in a book's line: behind a word where this state was, or that it is wrong."""
    if state == "taking" and word == ">":
        return "give"
    body, marked = cut_mark(word)
    if state == "end" or not is_numeral(body):
        return "wrong"
    if state == "take" or state == "taking":
        return "wrong" if marked else "taking"
    if marked:
        return "take"
    return "end" if state == "size" else "giving"


def book_in(text):
    """The size and the deeds that a line tells, be it of a book or not."""
    parts = text.split("; ")
    return (int(parts[0]), tuple([deed_in(part) for part in parts[1:]]))


def deed_in(part):
    """The take and the give that a part of a line tells."""
    take, give = part.split(" > ")
    return (numbers_in(take), numbers_in(give))


def numbers_in(words):
    """The numbers that stand there, single blanks between them."""
    return tuple([int(word) for word in words.split(" ")])
