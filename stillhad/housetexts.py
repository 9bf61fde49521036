"""Wirings as texts, written and read."""

from stillhad.booktexts import wares_text
from stillhad.errors import InvalidRow
from stillhad.judging import need
from stillhad.textparts import cut_mark, is_numeral
from stillhad.textreadings import check_fields, numbers_in
from stillhad.wiringchecker import is_wiring


def wiring_line(wiring):
    """The line of the wiring: its wires, then two sides for each seat, at last for ins and outs."""
    wires, seats, ins, outs = wiring
    pairs = seats + ((ins, outs),)
    return "; ".join([str(wires)] + [f"{wares_text(left)} > {wares_text(right)}" for left, right in pairs])


def read_wiring(text):
    """The wiring whose wiring_line is text."""
    need(isinstance(text, str), "text")
    check_fields(text, "wires", wiring_state, ("end", "right"))
    parts = text.split("; ")
    pairs = [pair_in(part) for part in parts[1:]]
    wiring = (int(parts[0]), tuple(pairs[:-1]), pairs[-1][0], pairs[-1][1])
    if not is_wiring(wiring):
        raise InvalidRow(0)
    return wiring


def wiring_state(state, word):
    """What stands next in a wiring's line: behind a word where this state was, or that it is wrong."""
    if state == "begin left" and word == "-":
        return "no left"
    if state in ("no left", "left") and word == ">":
        return "begin right"
    if state in ("begin left", "left"):
        return "left" if is_numeral(word) else "wrong"
    body, marked = cut_mark(word)
    if state == "wires":
        return "begin left" if marked and is_numeral(body) else "wrong"
    if state == "begin right" and body == "-":
        return "begin left" if marked else "end"
    if state not in ("begin right", "right") or not is_numeral(body):
        return "wrong"
    return "begin left" if marked else "right"


def pair_in(part):
    """The two sides that a part of a line tells."""
    left, right = part.split(" > ")
    return (side_in(left), side_in(right))


def side_in(words):
    """The wires that stand there, none for a dash."""
    return () if words == "-" else numbers_in(words)
