"""Points 23 to 25: steps, runs and where they end."""

import unittest
from fractions import Fraction
from random import Random

from stillhad.errors import BookError, NotUsable, Stuck
from stillhad.runkinds import flux_of, is_lap, is_run, is_step, run_times, steps_in
from stillhad.running import end_of, lowest_of, stuck_at, worths_along
from stillhad.stepping import after_step, can_do, fill_by, most_times
from stillhad.wishes import worth_of
from tests.helpers import (
    BARE, ENDLESS, FILL, FORK, HALF, NOUGHT, ODD, ONE, SINK, SPRING, TOOL, TWO, WISH, fields, fraction, fractions, moved,
    pair, pairs, some_books, some_fill, some_run, some_wish, walked)

LAPS = ((3, ((0, HALF), (1, TWO))), (1, ((2, (1, 1)),)))
MANY = 10 ** 12


class SteppingTest(unittest.TestCase):
    def test_document(self):
        self.assertEqual(most_times(FORK, FILL, 0), (2, 1))
        self.assertEqual(fill_by(FORK, FILL, (ONE, ONE, ONE)), (NOUGHT, NOUGHT, NOUGHT, ONE))

    def test_times(self):
        self.assertEqual(most_times(FORK, FILL, 2), NOUGHT)
        self.assertEqual(most_times(SPRING, (NOUGHT,), 0), ENDLESS)
        self.assertEqual(most_times(TOOL, (TWO, (1, 3), NOUGHT), 0), (1, 3))
        self.assertEqual(most_times((1, (((10 ** 6,), (0,)),)), ((1, MANY),), 0), (1, 10 ** 18))
        self.assertIs(can_do(FORK, FILL, 0), True)
        self.assertIs(can_do(FORK, FILL, 2), False)
        self.assertIs(can_do(SPRING, (NOUGHT,), 0), True)

    def test_after(self):
        self.assertEqual(after_step(FORK, FILL, 0, TWO), (NOUGHT, TWO, NOUGHT, NOUGHT))
        self.assertEqual(after_step(SINK, (ONE, HALF), 0, ONE), (NOUGHT, HALF))
        self.assertEqual(after_step(SPRING, (NOUGHT,), 0, (MANY, 1)), ((MANY, 1),))
        self.assertEqual(after_step(TOOL, (ONE, HALF, NOUGHT), 0, HALF), (HALF, HALF, HALF))
        for fill, deed, times in ((FILL, 0, (2 * MANY + 1, MANY)), (FILL, 2, (1, MANY)), ((NOUGHT,) * 4, 1, ONE)):
            with self.assertRaises(Stuck) as caught:
                after_step(FORK, fill, deed, times)
            self.assertEqual(fields(caught.exception), (0, 0, 0))
            self.assertIsInstance(caught.exception, BookError)
        # A tool that is given back must be there for all of the times.
        with self.assertRaises(Stuck):
            after_step(TOOL, (ONE, HALF, NOUGHT), 0, (2, 3))

    def test_all(self):
        chance = Random(7)
        for book in some_books(150, 7):
            fill = some_fill(chance, book[0])
            for k, deed in enumerate(book[1]):
                takes = [(amount, number) for amount, number in zip(fractions(fill), deed[0]) if number]
                most = min((amount / number for amount, number in takes), default=None)
                self.assertEqual(most_times(book, fill, k), ENDLESS if most is None else pair(most))
                self.assertIs(can_do(book, fill, k), most is None or most > 0)
                times = Fraction(3, 7) if most is None else most
                if times > 0:
                    self.assertEqual(after_step(book, fill, k, pair(times)),
                                     pairs(moved(fractions(fill), deed, times)))
                    if most is not None:
                        with self.assertRaises(Stuck):
                            after_step(book, fill, k, pair(times + Fraction(1, 10 ** 9)))

    def test_fill_by(self):
        self.assertIsNone(fill_by(FORK, FILL, (ONE, TWO, NOUGHT)))
        self.assertEqual(fill_by(BARE, (ONE, HALF), ()), (ONE, HALF))
        # A flux is no run: what is lent by the way is not asked for.
        self.assertEqual(fill_by(TOOL, (TWO, NOUGHT, NOUGHT), (TWO,)), (NOUGHT, NOUGHT, TWO))
        self.assertIsNone(fill_by(TOOL, (TWO, NOUGHT, NOUGHT), ((2 * MANY + 1, MANY),)))
        chance = Random(8)
        for book in some_books(150, 8):
            fill = some_fill(chance, book[0])
            flux = some_fill(chance, len(book[1]), 2)
            amounts = fractions(fill)
            for deed, times in zip(book[1], flux):
                amounts = moved(amounts, deed, fraction(times))
            self.assertEqual(fill_by(book, fill, flux), None if min(amounts) < 0 else pairs(amounts))


class RunKindsTest(unittest.TestCase):
    def test_kinds(self):
        step = (2, (1, 10 ** 40))
        self.assertIs(is_step(FORK, step), True)
        self.assertIs(is_lap(FORK, (10 ** 59, (step, step))), True)
        self.assertIs(is_run(FORK, ((1, (step,)), (2, (step,)))), True)
        self.assertIs(is_run(FORK, ()), True)
        self.assertIs(is_run(BARE, ()), True)
        self.assertIs(is_run(BARE, ((1, ((0, ONE),)),)), False)
        for thing in ((3, ONE), (-1, ONE), (True, ONE), (0, NOUGHT), (0, ENDLESS), (0, (2, 4)), (0, 1), [0, ONE], (0,),
                      (0, ONE, ONE)) + ODD:
            self.assertIs(is_step(FORK, thing), False, thing)
            self.assertIs(is_lap(FORK, (1, (step, thing))), False, thing)
        for thing in ((0, (step,)), (-1, (step,)), (True, (step,)), (1, ()), (1, [step]), (1, step), [1, (step,)],
                      (1,), (1, (step,), ()), ("1", (step,))):
            self.assertIs(is_lap(FORK, thing), False, thing)
            self.assertIs(is_run(FORK, ((1, (step,)), thing)), False, thing)
        for thing in ODD:
            self.assertIs(is_lap(FORK, thing), False)
            self.assertIs(is_run(FORK, thing), thing == ())

    def test_document(self):
        self.assertEqual(flux_of(FORK, LAPS), ((3, 2), (6, 1), (1, 1)))
        self.assertEqual(steps_in(FORK, LAPS), 7)

    def test_sums(self):
        self.assertEqual(flux_of(FORK, ()), (NOUGHT,) * 3)
        self.assertEqual(flux_of(BARE, ()), ())
        self.assertEqual((steps_in(FORK, ()), run_times(FORK, (), HALF)), (0, ()))
        self.assertEqual(run_times(FORK, LAPS, (2, 3)), ((3, ((0, (1, 3)), (1, (4, 3)))), (1, ((2, (2, 3)),))))
        large = ((MANY, ((0, (1, MANY)), (0, (MANY, 7)), (1, (1, 3)))),)
        self.assertEqual(flux_of(FORK, large), (pair(1 + Fraction(MANY * MANY, 7)), pair(Fraction(MANY, 3)), NOUGHT))
        self.assertEqual(steps_in(FORK, large), 3 * MANY)
        chance = Random(9)
        for book in some_books(100, 9):
            run = some_run(chance, book)
            flux = [Fraction(0)] * len(book[1])
            for turns, steps in run:
                for deed, times in steps:
                    flux[deed] += turns * fraction(times)
            self.assertEqual(flux_of(book, run), pairs(flux))
            self.assertEqual(flux_of(book, run_times(book, run, (3, 2))), pairs(part * 3 / 2 for part in flux))


class RunningTest(unittest.TestCase):
    def stuck(self, book, fill, run, place):
        self.assertEqual(stuck_at(book, fill, run), place)
        wish = tuple(0 if any(take[ware] for take, give in book[1]) else 1 for ware in range(book[0]))
        for call, given in ((end_of, (book, fill, run)), (lowest_of, (book, fill, run)),
                            (worths_along, (book, wish, fill, run))):
            with self.assertRaises(Stuck) as caught:
                call(*given)
            self.assertEqual(fields(caught.exception), place)

    def test_document(self):
        self.stuck(FORK, FILL, ((MANY, ((0, HALF),)),), (0, 4, 0))
        fill, run = (ONE, ONE, ONE, NOUGHT), ((2, ((2, HALF), (0, HALF))),)
        self.assertEqual(lowest_of(FORK, fill, run), (NOUGHT, HALF, NOUGHT, NOUGHT))
        self.assertEqual(end_of(FORK, fill, run), (NOUGHT, ONE, NOUGHT, ONE))
        self.assertIsNone(stuck_at(FORK, fill, run))

    def test_empty(self):
        self.assertIsNone(stuck_at(FORK, FILL, ()))
        self.assertEqual((end_of(FORK, FILL, ()), lowest_of(FORK, FILL, ())), (FILL, FILL))
        self.assertEqual(worths_along(FORK, WISH, FILL, ()), (NOUGHT,))
        self.assertEqual(end_of(BARE, (ONE, HALF), ()), (ONE, HALF))

    def test_many_turns(self):
        small = (1, MANY)
        self.assertEqual(end_of(FORK, (ONE, NOUGHT, NOUGHT, NOUGHT), ((MANY, ((0, small),)),)),
                         (NOUGHT, ONE, NOUGHT, NOUGHT))
        # One turn more than there is for: the last one sticks.
        self.stuck(FORK, (ONE, NOUGHT, NOUGHT, NOUGHT), ((MANY + 1, ((0, small),)),), (0, MANY, 0))
        self.stuck(FORK, (pair(1 - Fraction(1, MANY ** 2)), ONE, NOUGHT, NOUGHT), ((MANY, ((0, small),)),),
                   (0, MANY - 1, 0))
        # The first one sticks, and so does one of a later lap, at a later step.
        self.stuck(FORK, (ONE, NOUGHT, NOUGHT, NOUGHT), ((MANY, ((2, small),)),), (0, 0, 0))
        half = (MANY // 2, ((0, small),))
        both = (MANY, ((1, small), (2, small)))
        self.stuck(FORK, (ONE, NOUGHT, NOUGHT, NOUGHT), (half, both), (1, MANY // 2, 0))
        self.stuck(FORK, (TWO, NOUGHT, NOUGHT, NOUGHT), (half, both), (1, MANY // 2, 1))
        self.assertEqual(worths_along(FORK, WISH, (ONE, NOUGHT, NOUGHT, NOUGHT), (half, (MANY // 4, both[1]))),
                         (NOUGHT, NOUGHT, (1, 4)))
        self.assertEqual(lowest_of(TOOL, (ONE, ONE, NOUGHT), ((MANY, ((0, small),)),)), (NOUGHT, ONE, NOUGHT))
        self.assertEqual(end_of(SPRING, (NOUGHT,), ((10 ** 30, ((0, (MANY, 1)),)),)), ((MANY * 10 ** 30, 1),))

    def test_tool(self):
        self.stuck(TOOL, (ONE, HALF, NOUGHT), ((1, ((0, HALF),)), (1, ((0, (3, 5)),))), (1, 0, 0))
        self.assertEqual(end_of(TOOL, (ONE, HALF, NOUGHT), ((2, ((0, HALF),)),)), (NOUGHT, HALF, ONE))

    def test_walks(self):
        chance = Random(10)
        done = stuck = 0
        for book in some_books(700, 10):
            fill = some_fill(chance, book[0], 12)
            run = some_run(chance, book, bottom=30)
            way = walked(book, fill, run)
            if isinstance(way, tuple):
                stuck += 1
                self.stuck_or_not(book, fill, run, way)
                continue
            done += run != ()
            self.assertIsNone(stuck_at(book, fill, run))
            self.assertEqual(end_of(book, fill, run), pairs(way[-1]))
            self.assertEqual(end_of(book, fill, run), fill_by(book, fill, flux_of(book, run)))
            self.assertEqual(lowest_of(book, fill, run), pairs(min(column) for column in zip(*way)))
            wish = some_wish(chance, book)
            if wish:
                worths = worths_along(book, wish, fill, run)
                self.assertEqual(len(worths), len(run) + 1)
                for k in range(len(run) + 1):
                    self.assertEqual(worths[k], worth_of(book, wish, end_of(book, fill, run[:k])))
        self.assertGreater(min(done, stuck), 100)

    def stuck_or_not(self, book, fill, run, place):
        self.assertEqual(stuck_at(book, fill, run), place)
        for call in (end_of, lowest_of):
            with self.assertRaises(Stuck) as caught:
                call(book, fill, run)
            self.assertEqual(fields(caught.exception), place)
        # With all multiplied by one quotient it sticks there, too.
        part = (5, 7)
        less = pairs(amount * fraction(part) for amount in fractions(fill))
        self.assertEqual(stuck_at(book, less, run_times(book, run, part)), place)

    def test_order_of_errors(self):
        with self.assertRaises(NotUsable) as caught:
            worths_along(FORK, (0, 0, 0, 0), FILL, ((1, ((2, ONE),)),))
        self.assertEqual(fields(caught.exception), ("wish", -1))
        with self.assertRaises(NotUsable) as caught:
            after_step(FORK, FILL, 2, NOUGHT)
        self.assertEqual(fields(caught.exception), ("times", -1))


if __name__ == "__main__":
    unittest.main()
