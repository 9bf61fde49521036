"""What the tests share: the books of the document, odd values, random things, and plain fractions."""

from fractions import Fraction
from random import Random

NOUGHT, HALF, ONE, TWO, ENDLESS = (0, 1), (1, 2), (1, 1), (2, 1), (1, 0)
FORK = (4, (((1, 0, 0, 0), (0, 1, 0, 0)), ((1, 0, 0, 0), (0, 0, 1, 0)), ((0, 1, 1, 0), (0, 0, 0, 1))))
TOOL = (3, (((1, 1, 0), (0, 1, 1)),))
GROW = (2, (((1, 0), (1, 2)),))
SPRING = (1, (((0,), (1,)),))
SINK = (2, (((1, 0), (0, 0)),))
BARE = (2, ())
WISH = (0, 0, 0, 1)
FILL = (TWO, NOUGHT, NOUGHT, NOUGHT)

# Values of which none is a number, a tuple of anything that is asked for, or a string of use.
ODD = (None, True, "", "0", 1, -1, [], (), [0], (0,), ((),), {"a": 1}, object())


def fields(error):
    """All fields of an error, in their order."""
    return tuple(vars(error).values())


def fraction(pair):
    return Fraction(pair[0], pair[1])


def pair(number):
    number = Fraction(number)
    return (number.numerator, number.denominator)


def fractions(fill):
    return [fraction(amount) for amount in fill]


def pairs(numbers):
    return tuple(pair(number) for number in numbers)


def tells(row, numbers):
    """What a row tells at numbers, as a fraction; None for endless."""
    result = Fraction(0)
    for price, number in zip(row, numbers):
        if number == 0:
            continue
        if price == ENDLESS:
            return None
        result += fraction(price) * number
    return result


def at_most(one, other):
    """Whether one is at most other, None being endless."""
    return other is None or (one is not None and one <= other)


def moved(amounts, deed, times):
    take, give = deed
    return [amount + times * (more - gone) for amount, gone, more in zip(amounts, take, give)]


def walked(book, fill, run):
    """All fills on the way of a run, turn by turn, or the place where it sticks."""
    amounts = fractions(fill)
    way = [amounts]
    for lap, (turns, steps) in enumerate(run):
        for turn in range(turns):
            for step, (deed, times) in enumerate(steps):
                take = book[1][deed][0]
                if any(amount < fraction(times) * gone for amount, gone in zip(amounts, take)):
                    return (lap, turn, step)
                amounts = moved(amounts, book[1][deed], fraction(times))
                way.append(amounts)
    return way


def can_be_done(book, fill, run):
    """Whether a run can be done, by its first and last turns alone (G1); and its end."""
    amounts = fractions(fill)
    for turns, steps in run:
        begin = amounts
        behind = list(begin)
        for deed, times in steps:
            behind = moved(behind, book[1][deed], fraction(times))
        moves = [after - before for before, after in zip(begin, behind)]
        for first in (begin, [amount + (turns - 1) * move for amount, move in zip(begin, moves)]):
            now = first
            for deed, times in steps:
                take = book[1][deed][0]
                if any(amount < fraction(times) * gone for amount, gone in zip(now, take)):
                    return (False, None)
                now = moved(now, book[1][deed], fraction(times))
        amounts = [amount + turns * move for amount, move in zip(begin, moves)]
    return (True, pairs(amounts))


def supported(fill):
    return tuple(ware for ware, amount in enumerate(fill) if amount[0] > 0)


def closed(book, lot):
    """The closed lot from a lot, most plainly."""
    now = set(lot)
    changed = True
    while changed:
        changed = False
        for take, give in book[1]:
            if all(ware in now for ware, number in enumerate(take) if number):
                gives = {ware for ware, number in enumerate(give) if number}
                if not gives <= now:
                    now |= gives
                    changed = True
    return tuple(sorted(now))


def some_books(many, seed, wares=5, deeds=6, top=3):
    """Small books with many noughts, the same for the same seed."""
    chance = Random(seed)
    for _ in range(many):
        size = chance.randint(1, wares)

        def numbers():
            return tuple(chance.randint(1, top) if chance.random() < 0.35 else 0 for _ in range(size))

        yield (size, tuple((numbers(), numbers()) for _ in range(chance.randint(0, deeds))))


def some_fill(chance, size, top=6):
    return pairs(
        Fraction(chance.randint(1, top), chance.randint(1, 4)) if chance.random() < 0.6 else 0
        for _ in range(size))


def some_run(chance, book, laps=3, turns=4, steps=3, bottom=8):
    if not book[1]:
        return ()
    return tuple(
        (chance.randint(1, turns), tuple(
            (chance.randrange(len(book[1])), pair(Fraction(chance.randint(1, 4), chance.randint(1, bottom))))
            for _ in range(chance.randint(1, steps))))
        for _ in range(chance.randint(0, laps)))


def ends_of(book):
    return [ware for ware in range(book[0]) if not any(take[ware] for take, give in book[1])]


def some_wish(chance, book):
    """A wish of the book, None if it has no end ware."""
    ends = ends_of(book)
    if not ends:
        return None
    sure = chance.choice(ends)
    return tuple(
        chance.randint(1, 3) if ware == sure else (chance.randint(0, 2) if ware in ends else 0)
        for ware in range(book[0]))


def some_tariff(chance, many, rows=5, top=3, open_part=0.8):
    """A tariff over so many things, maybe with needless rows, maybe empty."""
    prices = [pair(Fraction(number, bottom)) for number in range(top + 1) for bottom in (1, 1, 2)]
    return tuple(sorted({
        tuple(chance.choice(prices) if chance.random() < open_part else ENDLESS for _ in range(many))
        for _ in range(chance.randint(0, rows))}))


def least_plainly(rows, fill):
    """The least of the rows at a fill, a fraction, None for endless."""
    least = None
    for row in rows:
        told = tells(row, fractions(fill))
        if told is not None and (least is None or told < least):
            least = told
    return least


def is_spot(rows, place, fill):
    """Whether a fill is a spot of a row, by the words of the document."""
    row = rows[place]
    if [k for k, price in enumerate(row) if price != ENDLESS] != list(supported(fill)) or len(fill) != len(row):
        return False
    told = tells(row, fractions(fill))
    rest = least_plainly(rows[:place] + rows[place + 1:], fill)
    return rest is None or told < rest


def is_mixture(rows, place, weights):
    """Whether weights are a mixture of the other rows that is nowhere above a row, by the words of the document."""
    if fraction(weights[place]) or sum(fractions(weights)) != 1 or len(weights) != len(rows):
        return False
    return all(
        at_most(tells([row[k] for row in rows], fractions(weights)), None if bound == ENDLESS else fraction(bound))
        for k, bound in enumerate(rows[place]))


def limit_book(seed, deeds=8, top=100):
    """A book at the limits of corners: seven wares, five of them taken at most, with tools and deeds that take nothing."""
    chance = Random(seed)

    def numbers(wares, most):
        gone = chance.sample(range(wares), chance.randint(1, most))
        return [chance.randint(1, top) if ware in gone else 0 for ware in range(7)]

    made = []
    for k in range(deeds):
        take, give = numbers(5, 4), numbers(7, 3)
        if k == 0 and seed % 3 == 0:
            take = [0] * 7
            give = [0] * 7 if seed % 2 else [0] * 5 + [1, 0]
        if k < 3:
            tool = chance.randrange(5)
            take[tool] = give[tool] = 1
        made.append((tuple(take), tuple(give)))
    return (7, tuple(made))


LIMIT_WISH = (0, 0, 0, 0, 0, 100, 7)

SPLIT = ((3, (((1, 0, 0), (0, 1, 0)), ((1, 0, 0), (0, 0, 1)))), (0,), (1, 2))
FORKED = (FORK, (0,), (3,))
# In 1 becomes a tool, inner ware 2, by which in 0 becomes the out.
TOOLED = ((4, (((0, 1, 0, 0), (0, 0, 1, 0)), ((1, 0, 1, 0), (0, 0, 1, 1)))), (0, 1), (3,))
BOTH = ((5, (((1, 0, 0, 0, 0), (0, 1, 1, 0, 0)), ((0, 1, 0, 0, 0), (0, 0, 0, 1, 0)), ((0, 0, 1, 0, 0), (0, 0, 0, 0, 1)))),
        (0,), (3, 4))
LOOP = (3, (((0, 1), (1, 2)),), (0,), (2,))
GIVES = (((((1, 1), (1, 2)),), (((1, 1), (1, 1)),)),)


def rich_modules(many, seed, ins=(0, 3), inner=(0, 3), outs=(1, 3), deeds=(1, 6), top=3, part=0.4):
    """Modules with as many ins, inner wares, outs and deeds as these bounds let, the same for the same seed."""
    chance = Random(seed)
    for _ in range(many):
        counts = [chance.randint(*bounds) for bounds in (ins, inner, outs)]
        size = sum(counts)
        names = chance.sample(range(size), size)
        own = (names[:counts[0]], names[counts[0]:size - counts[2]], names[size - counts[2]:])

        def numbers(wares):
            return tuple(
                chance.randint(1, top) if ware in wares and chance.random() < part else 0 for ware in range(size))

        made = tuple(
            (numbers(own[0] + own[1]), numbers(own[1] + own[2])) for _ in range(chance.randint(*deeds)))
        yield ((size, made), tuple(own[0]), tuple(own[2]))


def forking_modules(many, seed, ins=(1, 3), inner=(0, 2), outs=(2, 3), deeds=(2, 5), top=3):
    """Modules in which each deed takes one or two wares and gives as few, so that they differ in what they make."""
    chance = Random(seed)
    for _ in range(many):
        counts = [chance.randint(*bounds) for bounds in (ins, inner, outs)]
        size = sum(counts)
        names = chance.sample(range(size), size)
        taken, given = names[:size - counts[2]], names[counts[0]:]

        def numbers(wares):
            some = chance.sample(wares, min(len(wares), chance.choice((1, 1, 2))))
            return tuple(chance.randint(1, top) if ware in some else 0 for ware in range(size))

        made = tuple((numbers(taken), numbers(given)) for _ in range(chance.randint(*deeds)))
        yield ((size, made), tuple(names[:counts[0]]), tuple(names[size - counts[2]:]))


def lively_books(many, seed, wares=5, deeds=5, top=3):
    """Books that mostly lead on to the last ware, some by tools, so that mosts differ and are seldom endless."""
    chance = Random(seed)
    for _ in range(many):
        size = chance.randint(3, wares)
        made = []
        for _ in range(chance.randint(2, deeds)):
            gone = chance.sample(range(size - 1), min(size - 1, chance.choice((1, 1, 2))))
            take = [chance.randint(1, top) if ware in gone else 0 for ware in range(size)]
            give = [0] * size
            give[chance.randint(max(gone) + 1, size - 1)] = chance.randint(1, top)
            if chance.random() < 0.35:
                tool = chance.randrange(size - 1)
                take[tool] = give[tool] = 1
            made.append((tuple(take), tuple(give)))
        yield (size, tuple(made))


def some_wirings(many, seed, wires=6, seats=4, side=3):
    """Wirings with rings and shared wires among them, the same for the same seed."""
    chance = Random(seed)
    while many:
        size = chance.randint(1, wires)
        made = tuple(
            (tuple(chance.randrange(size) for _ in range(chance.randint(0, side))),
             tuple(chance.randrange(size) for _ in range(chance.randint(1, side))))
            for _ in range(chance.randint(0, seats)))
        bare = [wire for wire in range(size) if not any(wire in seat[0] for seat in made)]
        if not bare:
            continue
        outs = chance.sample(bare, chance.randint(1, min(3, len(bare))))
        free = [wire for wire in range(size) if wire not in outs and not any(wire in seat[1] for seat in made)]
        ins = chance.sample(free, chance.randint(0, min(3, len(free))))
        many -= 1
        yield (size, made, tuple(ins), tuple(outs))


def some_weights(chance, many, top=3):
    """Weights for so many outs, not all 0."""
    sure = chance.randrange(many)
    return tuple(chance.randint(1, top) if k == sure else chance.randint(0, top) for k in range(many))


def summed(prices, weights):
    """The sum of prices, each times its weight, None for endless."""
    if any(price == ENDLESS and weight for price, weight in zip(prices, weights)):
        return None
    return sum(fraction(price) * weight for price, weight in zip(prices, weights) if weight)


def plain(price):
    """A price as a fraction, None for endless."""
    return None if price == ENDLESS else fraction(price)
