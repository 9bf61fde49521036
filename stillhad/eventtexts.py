"""Events and logs as texts, written and read."""

from stillhad.amounttexts import price_text
from stillhad.booktexts import deed_text
from stillhad.errors import InvalidRow, InvalidText
from stillhad.judging import need
from stillhad.liveevents import is_any_event
from stillhad.runkinds import laps_in, laps_text, run_state
from stillhad.textparts import is_above_word, is_numeral, price_of_word
from stillhad.textreadings import check_fields, deed_in

# What stands behind the first word of an event's line.
BEGINS = {"bring": "number", "do": "number", "hand": "number", "go": "begin", "learn": "take", "day": "end"}
ENDS = ("end", "step", "giving")


def event_line(event):
    """The line of the event."""
    need(is_any_event(event), "event")
    return line_of(event)


def line_of(event):
    """The line of what is an event."""
    word = event[0]
    if word == "day":
        return word
    if word == "go":
        return f"{word} {laps_text(event[1])}"
    if word == "learn":
        return f"{word} {deed_text(event[1], event[2])}"
    return f"{word} {event[1]} {price_text(event[2])}"


def read_event(text):
    """The event whose line is text."""
    need(isinstance(text, str), "text")
    check_fields(text, "word", event_state, ENDS)
    word, blank, parts = text.partition(" ")
    if word == "day":
        return (word,)
    if word == "go":
        return (word, laps_in(parts))
    if word == "learn":
        take, give = deed_in(parts)
        if len(take) != len(give):
            raise InvalidRow(0)
        return (word, take, give)
    number, amount = parts.split(" ")
    return (word, int(number), price_of_word(amount))


def event_state(state, word):
    """What stands next in an event's line: behind a word where this state was, or that it is wrong."""
    if state == "word":
        return BEGINS.get(word, "wrong")
    if state == "number":
        return "amount" if is_numeral(word) else "wrong"
    if state == "amount":
        return "end" if is_above_word(word) else "wrong"
    if state == "taking" and word == ">":
        return "give"
    if state in ("take", "taking"):
        return "taking" if is_numeral(word) else "wrong"
    if state in ("give", "giving"):
        return "giving" if is_numeral(word) else "wrong"
    return run_state(None, state, word)


def log_text(log):
    """The lines of all events of the log, joined by newlines."""
    need(isinstance(log, tuple) and all([is_any_event(event) for event in log]), "log")
    return "\n".join([line_of(event) for event in log])


def read_log(text):
    """The log whose log_text is text."""
    need(isinstance(text, str), "text")
    if text == "":
        return ()
    return tuple([event_in(k, line) for k, line in enumerate(text.split("\n"))])


def event_in(k, line):
    """The event that line k tells."""
    try:
        return read_event(line)
    except InvalidText as wrong:
        raise InvalidText(k, wrong.field)
    except InvalidRow:
        raise InvalidRow(k)
