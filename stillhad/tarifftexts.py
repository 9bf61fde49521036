"""Tariffs as texts, a line for each row."""

from stillhad.amounttexts import row_line
from stillhad.errors import InvalidRow, InvalidText
from stillhad.judging import need
from stillhad.kinds import is_number
from stillhad.textreadings import read_row


def tariff_text(rows):
    """The lines of all rows, joined by newlines."""
    return "\n".join([row_line(row) for row in rows])


def read_tariff(many, text):
    """The tariff over many things whose tariff_text is text."""
    need(is_number(many), "many")
    need(isinstance(text, str), "text")
    if text == "":
        return ()
    rows = []
    for k, line in enumerate(text.split("\n")):
        row = row_in(k, line)
        if len(row) != many or (rows and not rows[-1] < row):
            raise InvalidRow(k)
        rows.append(row)
    return tuple(rows)


def row_in(k, line):
    """The row that line k tells."""
    try:
        return read_row(line)
    except InvalidText as wrong:
        raise InvalidText(k, wrong.field)
