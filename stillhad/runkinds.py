"""Steps, laps and runs, and their texts."""

from stillhad.amounttexts import price_text
from stillhad.arithmetic import NOUGHT, added, multiplied
from stillhad.errors import InvalidText
from stillhad.judging import is_above, is_pair, is_whole, need
from stillhad.kinds import is_number
from stillhad.textparts import cut_mark, is_above_word, is_numeral, price_of_word


def is_step(book, thing):
    """Whether thing is a step of the book."""
    return is_step_among(len(book[1]), thing)


def is_step_among(many, thing):
    """Whether thing is a step of one of so many deeds, of any deed for None."""
    return is_pair(thing) and is_deed_among(many, thing[0]) and is_above(thing[1])


def is_deed_among(many, thing):
    """Whether thing is a number below many, any number for None."""
    return is_number(thing) and (many is None or thing < many)


def is_lap(book, thing):
    """Whether thing is a lap of the book."""
    return is_lap_among(len(book[1]), thing)


def is_lap_among(many, thing):
    """Whether thing is a lap of so many deeds, of any deeds for None."""
    if not (is_pair(thing) and is_whole(thing[0]) and isinstance(thing[1], tuple)):
        return False
    return thing[1] != () and all([is_step_among(many, step) for step in thing[1]])


def is_run(book, thing):
    """Whether thing is a run of the book."""
    return is_run_among(len(book[1]), thing)


def is_run_among(many, thing):
    """Whether thing is a run of so many deeds, of any deeds for None."""
    return isinstance(thing, tuple) and all([is_lap_among(many, lap) for lap in thing])


def need_run(book, run):
    """Refuse what is no run of the book."""
    need(is_run(book, run), "run")


def flux_of(book, run):
    """For each deed the sum of the times at which the run does it."""
    need_run(book, run)
    flux = [NOUGHT for _ in book[1]]
    for turns, steps in run:
        for deed, times in steps:
            flux[deed] = added(flux[deed], multiplied((turns, 1), times))
    return tuple(flux)


def run_times(book, run, times):
    """The run with the times of each step multiplied by times."""
    need_run(book, run)
    need(is_above(times), "times")
    return tuple([
        (turns, tuple([(deed, multiplied(own, times)) for deed, own in steps])) for turns, steps in run])


def steps_in(book, run):
    """How many steps the run does, those of each turn counted."""
    need_run(book, run)
    return sum([turns * len(steps) for turns, steps in run])


def run_line(book, run):
    """The line of the run."""
    need_run(book, run)
    return laps_text(run)


def laps_text(run):
    """The texts of all laps of the run, or a dash."""
    if not run:
        return "-"
    return "; ".join([lap_text(turns, steps) for turns, steps in run])


def lap_text(turns, steps):
    """The text of a lap: its turns, then its steps."""
    return " ".join([str(turns)] + [f"{deed} {price_text(times)}" for deed, times in steps])


def read_run(book, text):
    """The run of the book whose run_line is text."""
    need(isinstance(text, str), "text")
    fields = text.split(" ")
    state = "begin"
    for k, word in enumerate(fields):
        state = run_state(len(book[1]), state, word)
        if state == "wrong":
            raise InvalidText(0, k)
    if state not in ("end", "step"):
        raise InvalidText(0, len(fields))
    return laps_in(text)


def laps_in(text):
    """The run that a good text tells."""
    if text == "-":
        return ()
    return tuple([lap_in(part.split(" ")) for part in text.split("; ")])


def run_state(many, state, word):
    """What stands next in a run's line: behind a word where this state was, or that it is wrong.

    The run is one of so many deeds, of any deeds for None.
    """
    if state == "begin" and word == "-":
        return "end"
    if state == "begin" or state == "turns":
        return "deed" if many != 0 and is_numeral(word) and word != "0" else "wrong"
    if state == "deed" or state == "step":
        return "times" if is_numeral(word) and is_deed_among(many, int(word)) else "wrong"
    body, marked = cut_mark(word)
    if state == "end" or not is_above_word(body):
        return "wrong"
    return "turns" if marked else "step"


def lap_in(words):
    """The lap that the words tell."""
    deeds = [int(word) for word in words[1::2]]
    times = [price_of_word(word) for word in words[2::2]]
    return (int(words[0]), tuple(zip(deeds, times)))
