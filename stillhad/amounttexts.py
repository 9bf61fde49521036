"""Prices, rows and fills as texts."""


def price_text(one):
    """The text of a price."""
    top, bottom = one
    if bottom == 0:
        return "oo"
    if bottom == 1:
        return str(top)
    return f"{top}/{bottom}"


def row_line(row):
    """The texts of all prices of the row, or a dash."""
    if not row:
        return "-"
    return " ".join([price_text(price) for price in row])


def fill_line(fill):
    """The texts of all amounts of the fill, or a dash."""
    return row_line(fill)
