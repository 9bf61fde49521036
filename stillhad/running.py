"""Runs, done without going through all turns one by one."""

from stillhad.arithmetic import common_bottom, least_price, quotients_over, tops_over
from stillhad.errors import Stuck
from stillhad.judging import need, need_fill
from stillhad.runkinds import need_run
from stillhad.wishes import is_wish, worth_of


def stuck_at(book, fill, run):
    """Lap, turn and step at which the run sticks at the fill; None if it can be done."""
    need_fill(book, fill)
    need_run(book, run)
    try:
        fills_along(book, fill, run)
    except Stuck as stuck:
        return (stuck.lap, stuck.turn, stuck.step)
    return None


def end_of(book, fill, run):
    """The fill behind the run."""
    need_fill(book, fill)
    need_run(book, run)
    return fills_along(book, fill, run)[-1]


def lowest_of(book, fill, run):
    """Of each ware the least amount at the fill or behind any step of any turn."""
    need_fill(book, fill)
    need_run(book, run)
    fills = fills_along(book, fill, run)
    lows = [lowest_in_lap(book, begin, lap) for begin, lap in zip(fills, run)]
    return tuple([least_price(amounts) for amounts in zip(fill, *lows)])


def worths_along(book, wish, fill, run):
    """The worth of the fill, then that behind each lap."""
    need(is_wish(book, wish), "wish")
    need_fill(book, fill)
    need_run(book, run)
    return tuple([worth_of(book, wish, behind) for behind in fills_along(book, fill, run)])


def fills_along(book, fill, run):
    """A list of the fill and the one behind each lap; Stuck if the run sticks."""
    fills = [fill]
    for k, lap in enumerate(run):
        bottom, begin, needs, behinds = first_turn(book, fills[-1], lap)
        moves = moves_of(begin, behinds)
        stuck = first_lack([begin] + behinds, needs, moves)
        if stuck is not None and stuck[0] < lap[0]:
            raise Stuck(k, stuck[0], stuck[1])
        ends = [amount + lap[0] * move for amount, move in zip(begin, moves)]
        fills.append(quotients_over(ends, bottom))
    return fills


def first_turn(book, fill, lap):
    """A bottom, and over it the fill, what each step takes, and what is behind each step of the first turn.

    Behind a step that can't be done amounts may be below nought.
    """
    bottom = common_bottom(fill + tuple([times for deed, times in lap[1]]))
    begin = tops_over(fill, bottom)
    amounts = begin
    needs = []
    behinds = []
    for deed, times in lap[1]:
        many = tops_over((times,), bottom)[0]
        take, give = book[1][deed]
        amounts = [amount + many * (more - gone) for amount, gone, more in zip(amounts, take, give)]
        needs.append([many * number for number in take])
        behinds.append(amounts)
    return (bottom, begin, needs, behinds)


def moves_of(begin, behinds):
    """What one turn adds to each amount."""
    return [after - before for before, after in zip(begin, behinds[-1])]


def first_lack(fronts, needs, moves):
    """The first (turn, step) that can't be done, however many turns there were; None if each could be.

    Turns are alike but for the moves, so in each of them a step finds what it found a turn ago,
    and the move added.
    """
    lacks = []
    for step, gone in enumerate(needs):
        for amount, number, move in zip(fronts[step], gone, moves):
            if amount < number:
                lacks.append((0, step))
            elif number > 0 and move < 0:
                lacks.append(((amount - number) // -move + 1, step))
    return min(lacks, default=None)


def lowest_in_lap(book, fill, lap):
    """Of each ware the least amount behind any step of the lap, which can be done."""
    bottom, begin, needs, behinds = first_turn(book, fill, lap)
    # What a turn adds is the same for all turns, so the first or the last one is lowest.
    falls = [min(0, (lap[0] - 1) * move) for move in moves_of(begin, behinds)]
    lows = [min(amounts) for amounts in zip(*behinds)]
    return quotients_over([low + fall for low, fall in zip(lows, falls)], bottom)
