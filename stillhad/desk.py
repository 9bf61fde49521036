"""A live store asked and told by lines."""

from stillhad.amounttexts import fill_line, price_text
from stillhad.errors import InvalidText
from stillhad.eventtexts import read_event
from stillhad.judging import need
from stillhad.live import LiveStore
from stillhad.textparts import is_numeral, is_price_word, is_quotient_word, price_of_word

ASKED = ("most", "still", "share", "fill", "right")


def desk_line(live, text):
    """The answer to the line: what it asks of the store, or that its event is done."""
    need(isinstance(live, LiveStore), "live")
    need(isinstance(text, str), "text")
    fields = text.split(" ")
    if fields[0] in ASKED:
        check_many(fields, 1)
        return answer_to(live, fields[0])
    if fields[0] == "grain":
        return grain_answer(live, fields)
    if fields[0] == "cost":
        return cost_answer(live, fields)
    live.event(read_event(text))
    return "done"


def answer_to(live, word):
    """The answer to a word alone."""
    if word == "fill":
        return fill_line(live.stands())
    if word == "right":
        return "yes" if live.right() else "no"
    if word == "most":
        return price_text(live.most())
    return price_text(live.still() if word == "still" else live.share())


def grain_answer(live, fields):
    """The answer to a line that asks for the grain of a ware."""
    size = len(live.stands())
    check_fits([is_numeral(word) and int(word) < size for word in fields[1:2]])
    check_many(fields, 2)
    grain = live.grain(int(fields[1]))
    return "none" if grain is None else price_text(grain)


def cost_answer(live, fields):
    """The answer to a line that asks for the cost of a worth."""
    size = len(live.stands())
    check_fits([is_quotient_word(word) for word in fields[1:2]] + [is_price_word(word) for word in fields[2:size + 2]])
    check_many(fields, size + 2)
    worth = price_of_word(fields[1])
    return price_text(live.cost(worth, tuple([price_of_word(word) for word in fields[2:]])))


def check_fits(fits):
    """Raise InvalidText for the first field behind the word that does not fit."""
    for k, good in enumerate(fits):
        if not good:
            raise InvalidText(0, k + 1)


def check_many(fields, many):
    """Raise InvalidText for the first field too many, or if there are too few."""
    if len(fields) != many:
        raise InvalidText(0, min(len(fields), many))
