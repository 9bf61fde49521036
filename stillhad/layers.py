"""Modules made of tariffs, and modules that join doors."""

from stillhad.arithmetic import ENDLESS, common_bottom, numbers_at, tops_over
from stillhad.judging import is_weights, need
from stillhad.kinds import is_number
from stillhad.tariffkinds import is_tariff
from stillhad.wishes import above_of


def layers_of(many, tariffs):
    """The module of layers: its door k has tariffs[k], over many ins."""
    need(is_number(many), "many")
    need(are_door_tariffs(many, tariffs), "tariffs")
    doors, begin = wares_of(many, tariffs)
    size = begin + len(doors)
    outs = tuple(range(begin, size))
    slots = [slot for door in doors for slot in door]
    deeds = in_deeds(size, many, slots)
    for row, ware, flag in slots:
        if flag is not None:
            deeds.append((numbers_at(size, {flag: 1}), numbers_at(size, {flag: 1, ware: 1})))
    for door, out in zip(doors, outs):
        deeds.append((numbers_at(size, {ware: 1 for row, ware, flag in door}), numbers_at(size, {out: 1})))
    return ((size, tuple(deeds)), tuple(range(many)), outs)


def are_door_tariffs(many, thing):
    """Whether thing is a tuple, not empty, of tariffs over so many things."""
    return isinstance(thing, tuple) and thing != () and all([is_tariff(many, one) for one in thing])


def wares_of(many, tariffs):
    """For each door a list of its rows, each with its ware and its flag or None; and the first ware behind these."""
    doors = []
    begin = many
    for rows in tariffs:
        flag = begin + len(rows)
        slots = []
        for k, row in enumerate(rows):
            if ENDLESS in row:
                slots.append((row, begin + k, flag))
                flag += 1
            else:
                slots.append((row, begin + k, None))
        doors.append(slots)
        begin = flag
    return (doors, begin)


def in_deeds(size, many, slots):
    """The deeds that take the ins, but for those that would give nothing."""
    deeds = []
    for thing in range(many):
        taken = common_bottom([row[thing] for row, ware, flag in slots if row[thing] != ENDLESS])
        given = {}
        for row, ware, flag in slots:
            if row[thing] == ENDLESS:
                given[flag] = 1
            else:
                given[ware] = tops_over((row[thing],), taken)[0]
        give = numbers_at(size, given)
        if above_of(give) != ():
            deeds.append((numbers_at(size, {thing: taken}), give))
    return deeds


def joiner_of(weights):
    """The module that makes, of one of an in, as much of its one out as the in's weight."""
    need(isinstance(weights, tuple) and is_weights(len(weights), weights), "weights")
    out = len(weights)
    deeds = [
        (numbers_at(out + 1, {ware: 1}), numbers_at(out + 1, {out: weight}))
        for ware, weight in enumerate(weights) if weight > 0]
    return ((out + 1, tuple(deeds)), tuple(range(out)), (out,))
