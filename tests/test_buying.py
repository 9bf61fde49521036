"""Points 83 to 86: grains, courses, what it costs to bring the most to a worth, and papers of it."""

import unittest
from fractions import Fraction
from random import Random

from stillhad.buying import bought_for, least_cost
from stillhad.buypapers import cost_paper, lets_cost
from stillhad.courses import course_of
from stillhad.errors import BookError, InvalidPaper, OutOfReach
from stillhad.grains import grain_of, grained_most
from stillhad.kinds import is_fill
from stillhad.mosts import most_of
from stillhad.quotients import less, minus, plus, product
from stillhad.rowsums import fill_plus, fill_times
from stillhad.runfors import run_for
from stillhad.tariffs import tariff_of
from stillhad.wishes import worth_of
from tests.helpers import (
    BARE, ENDLESS, FILL, FORK, GROW, HALF, LIMIT_WISH, NOUGHT, ODD, ONE, SINK, SPRING, TOOL, TWO, WISH, at_most,
    can_be_done, fields, fraction, fractions, limit_book, lively_books, pair, plain, some_books, some_fill, some_wish,
    tells)

EMPTY = (NOUGHT,) * 4
SHUT = (ENDLESS,) * 4
TOOL_WISH = (0, 0, 1)
# The end ware 3 is one each of ware 0, or two each of ware 0 with the tool 1, which an egg, ware 2, becomes.
EGGS = (4, (((1, 0, 0, 0), (0, 0, 0, 1)), ((1, 1, 0, 0), (0, 1, 0, 2)), ((0, 0, 1, 0), (0, 1, 0, 0))))


def some_cases(many, seed):
    """Books, wishes and fills, the same for the same seed."""
    chance = Random(seed)
    for book in (*some_books(many, seed, wares=5, deeds=5), *lively_books(many, seed)):
        wish = some_wish(chance, book)
        if wish:
            yield book, wish, some_fill(chance, book[0])


def with_more(fill, ware, amount):
    return fill[:ware] + (plus(fill[ware], amount),) + fill[ware + 1:]


class GrainsTest(unittest.TestCase):
    def test_document(self):
        self.assertEqual(grain_of(TOOL, TOOL_WISH, ((3, 1), NOUGHT, NOUGHT), 1), (3, 1))

    def test_edges(self):
        self.assertEqual(grain_of(TOOL, TOOL_WISH, ((3, 1), HALF, NOUGHT), 1), NOUGHT)
        self.assertEqual(grain_of(TOOL, TOOL_WISH, (NOUGHT, ONE, TWO), 0), NOUGHT)
        self.assertEqual(grain_of(TOOL, TOOL_WISH, (ONE, ONE, TWO), 2), NOUGHT)
        self.assertEqual(grained_most(TOOL, TOOL_WISH, ((3, 1), NOUGHT, ONE), (0, 1)), (4, 1))
        self.assertEqual(grained_most(TOOL, TOOL_WISH, ((3, 1), NOUGHT, ONE), ()), ONE)
        # An egg and a tool do the same as grains.
        for lot in ((1,), (2,), (1, 2), (0, 1, 2, 3)):
            self.assertEqual(grained_most(EGGS, WISH, FILL, lot), (4, 1))
        # Endless before, or by the grain.
        self.assertIsNone(grain_of(SPRING, (1,), (NOUGHT,), 0))
        self.assertIsNone(grain_of(GROW, (0, 1), (HALF, NOUGHT), 0))
        self.assertIsNone(grain_of(GROW, (0, 1), (HALF, NOUGHT), 1))
        self.assertEqual(grain_of(GROW, (0, 1), (NOUGHT, NOUGHT), 0), ENDLESS)
        self.assertEqual(grained_most(GROW, (0, 1), (NOUGHT, TWO), (0, 1)), ENDLESS)
        self.assertEqual(grain_of(GROW, (0, 1), (NOUGHT, TWO), 1), NOUGHT)
        # Two grains open what one alone does not.
        keys = (4, (((0, 1, 1, 0), (0, 1, 1, 1)),))
        self.assertEqual(grained_most(keys, WISH, EMPTY, (1,)), NOUGHT)
        self.assertEqual(grained_most(keys, WISH, EMPTY, (1, 2)), ENDLESS)
        self.assertEqual(grained_most(BARE, (2, 1), (TWO, ONE), (0, 1)), (5, 1))

    def test_all(self):
        chance = Random(180)
        leaps = opened = 0
        for book, wish, fill in some_cases(200, 180):
            rows = tariff_of(book, wish)
            most = most_of(book, wish, fill)
            for ware in range(book[0]):
                bound = grained_most(book, wish, fill, (ware,))
                grain = grain_of(book, wish, fill, ware)
                if most == ENDLESS:
                    self.assertIsNone(grain)
                    self.assertEqual(bound, ENDLESS)
                elif bound == ENDLESS:
                    self.assertEqual(grain, ENDLESS)
                else:
                    self.assertEqual(plus(grain, most), bound)
                    leaps += grain != NOUGHT
                opened += grain == ENDLESS
            lot = tuple(ware for ware in range(book[0]) if chance.random() < 0.4)
            bound = grained_most(book, wish, fill, lot)
            told = [tells(row, fractions(fill)) for row in rows if all(row[ware] != ENDLESS for ware in lot)]
            self.assertEqual(plain(bound), min((one for one in told if one is not None), default=None))
            # It is not above what any grains make, and small ones come as near as is wished.
            small = tuple((1, 10 ** 15) if ware in lot else NOUGHT for ware in range(book[0]))
            near = most_of(book, wish, fill_plus(fill, small))
            self.assertFalse(less(near, bound))
            if bound != ENDLESS:
                self.assertLess(fraction(near) - fraction(bound), Fraction(1, 10 ** 6))
        self.assertGreater(min(leaps, opened), 5)


class CoursesTest(unittest.TestCase):
    def test_document(self):
        self.assertEqual(course_of(FORK, WISH, (NOUGHT, ONE, NOUGHT, NOUGHT), 0),
                         ((NOUGHT, NOUGHT, ONE), (ONE, ONE, HALF)))

    def test_edges(self):
        # One piece; one behind a leap; none at all.
        self.assertEqual(course_of(FORK, WISH, FILL, 0), ((NOUGHT, ONE, HALF),))
        self.assertEqual(course_of(FORK, WISH, FILL, 3), ((NOUGHT, ONE, ONE),))
        self.assertEqual(course_of(TOOL, TOOL_WISH, ((3, 1), NOUGHT, NOUGHT), 1), ((NOUGHT, (3, 1), NOUGHT),))
        self.assertEqual(course_of(TOOL, TOOL_WISH, ((3, 1), NOUGHT, NOUGHT), 0), ((NOUGHT, NOUGHT, NOUGHT),))
        self.assertEqual(course_of(GROW, (0, 1), (NOUGHT, NOUGHT), 0), ())
        self.assertEqual(course_of(GROW, (0, 1), (HALF, NOUGHT), 1), ())
        self.assertEqual(course_of(SPRING, (1,), (NOUGHT,), 0), ())
        self.assertEqual(course_of(SINK, (0, 2), (ONE, ONE), 0), ((NOUGHT, TWO, NOUGHT),))
        self.assertEqual(course_of(BARE, (0, 2), (ONE, ONE), 1), ((NOUGHT, TWO, TWO),))
        # Two pieces behind a leap: of ware 1 there is enough for a while.
        self.assertEqual(course_of(FORK, WISH, (NOUGHT, (2, 3), (1, 3), HALF), 0),
                         ((NOUGHT, (5, 6), ONE), ((1, 3), (7, 6), HALF)))
        # Three pieces: steeper and steeper ways run out.
        steps = (4, (((1, 1, 0, 0), (0, 0, 0, 3)), ((1, 0, 1, 0), (0, 0, 0, 2)), ((1, 0, 0, 0), (0, 0, 0, 1))))
        self.assertEqual(course_of(steps, WISH, (NOUGHT, ONE, ONE, NOUGHT), 0),
                         ((NOUGHT, NOUGHT, (3, 1)), (ONE, (3, 1), TWO), (TWO, (5, 1), ONE)))
        # The first row that tells the least is not steepest where three meet in one point.
        self.assertEqual(course_of(steps, WISH, (NOUGHT, ONE, NOUGHT, NOUGHT), 0),
                         ((NOUGHT, NOUGHT, (3, 1)), (ONE, (3, 1), ONE)))

    def test_all(self):
        pieces = leaps = endless = 0
        for book, wish, fill in some_cases(200, 181):
            for ware in range(book[0]):
                course = course_of(book, wish, fill, ware)
                bound = grained_most(book, wish, fill, (ware,))
                if course == ():
                    self.assertEqual(bound, ENDLESS)
                    endless += most_of(book, wish, fill) != ENDLESS
                    continue
                self.assertEqual(course[0][:2], (NOUGHT, bound))
                leaps += bound != most_of(book, wish, fill)
                pieces += len(course) > 1
                for before, behind in zip(course, course[1:]):
                    self.assertTrue(less(before[0], behind[0]))
                    self.assertTrue(less(behind[2], before[2]))
                self.along(book, wish, fill, ware, course)
        self.assertGreater(pieces, 40)
        self.assertGreater(min(leaps, endless), 5)

    def along(self, book, wish, fill, ware, course):
        """At, between and behind the starts the most is as the pieces tell."""
        starts = [fraction(piece[0]) for piece in course]
        points = starts[1:] + [(low + high) / 2 for low, high in zip(starts, starts[1:])]
        points += [starts[-1] + 1, starts[-1] + 10 ** 6, (starts + [Fraction(1)])[1] / 10 ** 9]
        for point in points:
            start, most, slope = [piece for piece in course if fraction(piece[0]) < point][-1]
            told = plus(most, product(slope, minus(pair(point), start)))
            self.assertEqual(most_of(book, wish, with_more(fill, ware, pair(point))), told)

    def test_limits(self):
        chance = Random(182)
        for seed in range(6):
            book = limit_book(seed)
            fill = some_fill(chance, 7)
            for ware in range(7):
                course = course_of(book, LIMIT_WISH, fill, ware)
                if course:
                    self.along(book, LIMIT_WISH, fill, ware, course)


class BuyingTest(unittest.TestCase):
    def refused(self, row, *given):
        for call in (least_cost, bought_for, cost_paper):
            with self.assertRaises(OutOfReach) as caught:
                call(*given)
            self.assertEqual(fields(caught.exception), (row,))
            self.assertIsInstance(caught.exception, BookError)

    def test_document(self):
        self.assertEqual(least_cost(TOOL, TOOL_WISH, (NOUGHT,) * 3, (3, 1), (TWO, (5, 1), ENDLESS)), (6, 1))

    def test_edges(self):
        # The tool costs nothing but has to be bought: without it the row that asks for ware 0 alone is not all.
        self.refused(((NOUGHT, ENDLESS, ONE)), TOOL, TOOL_WISH, (NOUGHT,) * 3, (3, 1), (TWO, ENDLESS, ENDLESS))
        self.assertEqual(bought_for(TOOL, TOOL_WISH, (NOUGHT,) * 3, (3, 1), (TWO, (5, 1), ENDLESS)),
                         ((3, 1), NOUGHT, NOUGHT))
        self.assertEqual(bought_for(TOOL, TOOL_WISH, ((3, 1), NOUGHT, NOUGHT), (3, 1), (ENDLESS, TWO, ENDLESS)), (NOUGHT,) * 3)
        self.assertEqual(least_cost(TOOL, TOOL_WISH, ((3, 1), NOUGHT, NOUGHT), (3, 1), (ENDLESS, TWO, ENDLESS)), NOUGHT)
        # The end ware itself may be cheapest, and what costs nothing is had for nothing.
        self.assertEqual(least_cost(TOOL, TOOL_WISH, (NOUGHT,) * 3, (3, 1), (TWO, (5, 1), ONE)), (3, 1))
        self.assertEqual(least_cost(TOOL, TOOL_WISH, (NOUGHT,) * 3, (3, 1), (NOUGHT, (5, 1), ONE)), NOUGHT)
        # Reached already; a worth of nought; nothing that can be bought.
        self.assertEqual(least_cost(FORK, WISH, FILL, ONE, (ONE,) * 4), NOUGHT)
        self.assertEqual(bought_for(FORK, WISH, FILL, ONE, (ONE,) * 4), EMPTY)
        self.assertEqual(least_cost(FORK, WISH, EMPTY, NOUGHT, SHUT), NOUGHT)
        self.assertEqual(bought_for(FORK, WISH, FILL, ONE, SHUT), EMPTY)
        self.assertEqual(cost_paper(FORK, WISH, FILL, ONE, SHUT), (NOUGHT,) * 3)
        # The first row that binds and tells too little, with nothing of what can be bought.
        self.refused((ONE, NOUGHT, ONE, ONE), FORK, WISH, EMPTY, ONE, SHUT)
        self.refused(((HALF, HALF, HALF, ONE)), FORK, WISH, FILL, (3, 2), SHUT)
        self.refused((ONE, NOUGHT, ONE, ONE), FORK, WISH, EMPTY, ONE, (ENDLESS, ONE, ENDLESS, ENDLESS))
        self.refused((ONE, ONE, NOUGHT, ONE), FORK, WISH, EMPTY, ONE, (ENDLESS, ENDLESS, ONE, ENDLESS))
        self.assertEqual(least_cost(FORK, WISH, EMPTY, ONE, (ENDLESS, ONE, ONE, ENDLESS)), TWO)
        self.assertEqual(bought_for(FORK, WISH, EMPTY, ONE, (ENDLESS, ONE, ONE, ENDLESS)), (NOUGHT, ONE, ONE, NOUGHT))
        # Endless at the fill, or with a grain of what can be bought, whatever that costs.
        self.assertEqual(least_cost(SPRING, (1,), (NOUGHT,), (10 ** 12, 1), (ENDLESS,)), NOUGHT)
        self.assertEqual(cost_paper(SPRING, (1,), (NOUGHT,), ONE, (ENDLESS,)), ())
        self.assertEqual(lets_cost(SPRING, (1,), (NOUGHT,), ONE, (ENDLESS,), ()), NOUGHT)
        self.assertEqual(least_cost(GROW, (0, 1), (NOUGHT,) * 2, ONE, ((10 ** 6, 1), ENDLESS)), NOUGHT)
        self.refused((NOUGHT, ONE), SINK, (0, 1), (ONE, NOUGHT), ONE, (ONE, ENDLESS))
        # An egg is bought as a grain only, so the tool's row does not bind.
        self.assertEqual(least_cost(EGGS, WISH, EMPTY, TWO, (ONE, ENDLESS, (9, 1), ENDLESS)), ONE)
        self.assertEqual(least_cost(EGGS, WISH, EMPTY, TWO, (ONE, ENDLESS, ENDLESS, ENDLESS)), TWO)

    def test_all(self):
        chance = Random(183)
        counts = {"paid": 0, "free": 0, "out": 0}
        for book, wish, fill in some_cases(250, 183):
            part = chance.choice((0.1, 0.25, 0.7))
            costs = tuple(chance.choice((NOUGHT, HALF, ONE, TWO, (5, 3))) if chance.random() < part else ENDLESS
                          for _ in range(book[0]))
            worth = pair(Fraction(chance.randint(0, 12), chance.randint(1, 3)))
            given = (book, wish, fill, worth, costs)
            rows = tariff_of(book, wish)
            bought = [ware for ware in range(book[0]) if costs[ware] != ENDLESS]
            binding = [row for row in rows
                       if all(row[ware] != ENDLESS for ware in range(book[0]) if ware in bought or fill[ware] != NOUGHT)]
            short = [row for row in binding if tells(row, fractions(fill)) < fraction(worth)]
            barred = [row for row in short if all(row[ware] == NOUGHT for ware in bought)]
            if barred:
                self.refused(barred[0], *given)
                much = tuple((10 ** 9, 1) if ware in bought else NOUGHT for ware in range(book[0]))
                self.assertTrue(less(most_of(book, wish, fill_plus(fill, much)), worth))
                counts["out"] += 1
                continue
            cost = least_cost(*given)
            more = bought_for(*given)
            self.assertIs(is_fill(book[0], more), True)
            self.assertTrue(all(more[ware] == NOUGHT for ware in range(book[0]) if ware not in bought))
            self.assertEqual(tells(costs, fractions(more)), fraction(cost))
            for row in binding:
                self.assertTrue(at_most(fraction(worth), tells(row, fractions(fill_plus(fill, more)))))
            self.assertEqual(lets_cost(*given, cost_paper(*given)), cost)
            counts["free" if cost == NOUGHT else "paid"] += 1
            # With these additions, and any grain of each ware that can be bought, the worth is reached.
            grain = tuple((1, 10 ** 9) if ware in bought else NOUGHT for ware in range(book[0]))
            there = fill_plus(fill_plus(fill, more), grain)
            self.assertFalse(less(most_of(book, wish, there), worth))
            if cost != NOUGHT:
                # With nine tenths of any additions of that cost it is not reached.
                part = fill_plus(fill, fill_times(more, (9, 10)))
                self.assertTrue(less(most_of(book, wish, part), worth))
        self.assertGreater(min(counts.values()), 40)

    def test_runs(self):
        # What is bought lets a run end with nearly the worth.
        fill = bought_for(TOOL, TOOL_WISH, (NOUGHT,) * 3, (3, 1), (TWO, (5, 1), ENDLESS))
        there = fill_plus(fill, ((1, 100), (1, 100), NOUGHT))
        can, end = can_be_done(TOOL, there, run_for(TOOL, TOOL_WISH, there, (3, 1)))
        self.assertTrue(can)
        self.assertGreaterEqual(fraction(worth_of(TOOL, TOOL_WISH, end)), 3)

    def test_limits(self):
        chance = Random(184)
        for seed in range(8):
            book = limit_book(seed)
            fill = some_fill(chance, 7)
            costs = tuple(chance.choice((ENDLESS, pair(Fraction(chance.randint(1, 10 ** 6), chance.randint(1, 10 ** 6)))))
                          for _ in range(7))
            given = (book, LIMIT_WISH, fill, (10 ** 12, 10 ** 6 - 1), costs)
            try:
                cost = least_cost(*given)
            except OutOfReach:
                continue
            self.assertEqual(lets_cost(*given, cost_paper(*given)), cost)


class PapersTest(unittest.TestCase):
    def refused(self, thing, word, at, book=FORK, wish=WISH, fill=EMPTY, worth=ONE, costs=(ONE, ONE, ONE, ENDLESS)):
        with self.assertRaises(InvalidPaper) as caught:
            lets_cost(book, wish, fill, worth, costs, thing)
        self.assertEqual(fields(caught.exception), (word, at), thing)

    def test_faults(self):
        costs = (ONE, ONE, ONE, ENDLESS)
        self.assertEqual(lets_cost(FORK, WISH, EMPTY, ONE, costs, (HALF, HALF, NOUGHT)), ONE)
        self.assertEqual(lets_cost(FORK, WISH, EMPTY, ONE, costs, (NOUGHT, NOUGHT, TWO)), TWO)
        self.assertEqual(least_cost(FORK, WISH, EMPTY, ONE, costs), TWO)
        for thing in ODD + ((HALF, HALF), (HALF,) * 4, [HALF] * 3, (HALF, HALF, ENDLESS), (HALF, HALF, True), (HALF, HALF, 0)):
            self.refused(thing, "shape", -1)
        self.refused((TWO, NOUGHT, NOUGHT), "above", 0)
        self.refused((ONE, ONE, NOUGHT), "above", 0)
        self.refused((NOUGHT, NOUGHT, (5, 2)), "above", 0)
        self.refused((NOUGHT, NOUGHT, (5, 2)), "above", 2, costs=((9, 1), (9, 1), ONE, ENDLESS))
        self.refused((NOUGHT, (3, 2), NOUGHT), "above", 1, costs=(ENDLESS, ONE, ENDLESS, ENDLESS))
        self.assertEqual(lets_cost(FORK, WISH, EMPTY, ONE, SHUT, ((9, 1),) * 3), (27, 1))
        # Rows that tell the worth already, and rows that don't bind.
        fill = (NOUGHT, (3, 1), NOUGHT, NOUGHT)
        self.refused((NOUGHT, ONE, NOUGHT), "row", 1, fill=fill)
        self.refused((NOUGHT, ONE, (9, 1)), "row", 1, fill=fill)
        self.refused((NOUGHT, NOUGHT, ONE), "row", 2, fill=fill)
        self.assertEqual(lets_cost(FORK, WISH, fill, ONE, costs, (ONE, NOUGHT, NOUGHT)), ONE)
        self.refused((ONE, HALF), "row", 0, TOOL, TOOL_WISH, (NOUGHT,) * 3, costs=(ONE, ONE, ENDLESS))
        self.refused((ONE, HALF), "row", 0, TOOL, TOOL_WISH, (NOUGHT, ONE, NOUGHT), costs=(ONE, ENDLESS, ENDLESS))
        self.assertEqual(lets_cost(TOOL, TOOL_WISH, (NOUGHT,) * 3, TWO, (ONE, ONE, ENDLESS), (NOUGHT, HALF)), ONE)
        # A row that does not bind is endless somewhere: with a quotient of nought it asks for nothing.
        self.assertEqual(lets_cost(TOOL, TOOL_WISH, (NOUGHT,) * 3, TWO, (ONE, ONE, ENDLESS), (NOUGHT, ONE)), TWO)
        # It tells what it may also where the worth is out of reach.
        self.assertEqual(lets_cost(FORK, WISH, EMPTY, ONE, (ENDLESS, ONE, ENDLESS, ENDLESS), ((7, 1), NOUGHT, NOUGHT)), (7, 1))

    def test_all(self):
        # No paper tells more than the least cost.
        chance = Random(185)
        good = bad = 0
        for book, wish, fill in some_cases(150, 185):
            costs = tuple(chance.choice((HALF, ONE, TWO, ENDLESS)) for _ in range(book[0]))
            given = (book, wish, fill, pair(Fraction(chance.randint(1, 12), chance.randint(1, 3))), costs)
            rows = tariff_of(book, wish)
            for _ in range(4):
                thing = tuple(chance.choice((NOUGHT, NOUGHT, (1, 5), HALF, ONE)) for _ in rows)
                try:
                    told = lets_cost(*given, thing)
                except InvalidPaper:
                    bad += 1
                    continue
                good += told != NOUGHT
                try:
                    self.assertFalse(less(least_cost(*given), told))
                except OutOfReach:
                    pass
        self.assertGreater(min(good, bad), 30)


if __name__ == "__main__":
    unittest.main()
