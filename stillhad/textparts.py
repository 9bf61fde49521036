"""The words that texts consist of."""

from math import gcd

from stillhad.arithmetic import ENDLESS

DIGITS = "0123456789"


def is_numeral(word):
    """Whether word is a number, decimal, without leading zeros."""
    if word == "" or not all([sign in DIGITS for sign in word]):
        return False
    return word == "0" or word[0] != "0"


def is_quotient_word(word):
    """Whether word is the text of a quotient."""
    top, slash, bottom = word.partition("/")
    if slash == "":
        return is_numeral(word)
    if not (is_numeral(top) and is_numeral(bottom)):
        return False
    # A bottom of 1 is never written.
    return int(bottom) > 1 and gcd(int(top), int(bottom)) == 1


def is_price_word(word):
    """Whether word is the text of a price."""
    return word == "oo" or is_quotient_word(word)


def is_above_word(word):
    """Whether word is the text of a quotient above nought."""
    return is_quotient_word(word) and word != "0"


def price_of_word(word):
    """The price whose text word is."""
    if word == "oo":
        return ENDLESS
    top, slash, bottom = word.partition("/")
    return (int(top), int(bottom) if slash else 1)


def cut_mark(word):
    """The word without a semicolon at its end, and whether there is one."""
    if word.endswith(";"):
        return (word[:-1], True)
    return (word, False)
