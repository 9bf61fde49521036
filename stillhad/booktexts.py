"""Books as texts."""


def book_line(book):
    """The line of the book: its size, then its deeds."""
    size, deeds = book
    return "; ".join([str(size)] + [deed_text(take, give) for take, give in deeds])


def deed_text(take, give):
    """The text of a deed: its take and its give."""
    return f"{numbers_text(take)} > {numbers_text(give)}"


def numbers_text(numbers):
    """The numbers, one blank between them."""
    return " ".join([str(number) for number in numbers])


def wares_text(wares):
    """The wares, one blank between them, or a dash."""
    return numbers_text(wares) if wares else "-"
