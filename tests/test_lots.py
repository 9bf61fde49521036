"""Points 26 to 29: closed lots, openings, traps, closings."""

import unittest
from fractions import Fraction
from itertools import chain, combinations
from random import Random

from stillhad.bookchanges import turned_about
from stillhad.closings import closing_of, closing_run, lets_closing
from stillhad.errors import InvalidPaper
from stillhad.lots import closed_from, closed_lots, is_closed
from stillhad.openings import lets_opening, opening_of, opening_run
from stillhad.runkinds import is_run
from stillhad.traps import all_traps, is_trap, trap_within
from tests.helpers import (
    BARE, FILL, FORK, GROW, HALF, NOUGHT, ODD, ONE, SINK, SPRING, TOOL, TWO, can_be_done, closed, fields, fraction,
    fractions, some_books, some_fill, supported)

NEARS = ((10 ** 6, 1), ONE, (1, 3), (1, 10 ** 6))


def lots_of(size):
    wares = range(size)
    return sorted(chain.from_iterable(combinations(wares, many) for many in range(size + 1)))


def touches(numbers, lot):
    return any(numbers[ware] for ware in lot)


def is_trap_plainly(book, lot):
    return all(touches(give, lot) for take, give in book[1] if touches(take, lot))


def without(size, lot):
    return tuple(ware for ware in range(size) if ware not in lot)


class LotsTest(unittest.TestCase):
    def test_document(self):
        self.assertEqual(closed_lots(TOOL), ((), (0,), (0, 1, 2), (0, 2), (1,), (1, 2), (2,)))

    def test_edges(self):
        self.assertEqual(closed_from(SPRING, ()), (0,))
        self.assertIs(is_closed(SPRING, ()), False)
        self.assertEqual(closed_lots(SPRING), ((0,),))
        self.assertEqual(closed_lots(BARE), ((), (0,), (0, 1), (1,)))
        self.assertEqual(closed_from(BARE, (1,)), (1,))
        self.assertEqual(closed_from(FORK, (0,)), (0, 1, 2, 3))
        self.assertEqual(closed_from(FORK, (0, 1, 2, 3)), (0, 1, 2, 3))
        self.assertEqual(closed_from(FORK, (1,)), (1,))
        self.assertIs(is_closed(FORK, (0, 1, 2, 3)), True)
        self.assertIs(is_closed(FORK, ()), True)
        self.assertIs(is_closed(SINK, (0,)), True)

    def test_all(self):
        for book in some_books(120, 11):
            lots = lots_of(book[0])
            for lot in lots:
                self.assertEqual(closed_from(book, lot), closed(book, lot))
                self.assertIs(is_closed(book, lot), closed(book, lot) == lot)
            found = closed_lots(book)
            self.assertEqual(found, tuple(lot for lot in lots if closed(book, lot) == lot))
            for one, other in combinations(found[:12], 2):
                self.assertIn(tuple(sorted(set(one) & set(other))), found)

    def test_eight_wares(self):
        book = (8, tuple((tuple(int(k == ware) for k in range(8)), tuple(int(k == ware + 1) for k in range(8)))
                         for ware in range(7)))
        self.assertEqual(len(closed_lots(book)), 9)
        self.assertEqual(closed_from(book, (0,)), tuple(range(8)))
        self.assertEqual(len(all_traps((8, ()))), 256)


class OpeningsTest(unittest.TestCase):
    def refused(self, book, lot, thing, word, at, call=lets_opening):
        with self.assertRaises(InvalidPaper) as caught:
            call(book, lot, thing)
        self.assertEqual(fields(caught.exception), (word, at), thing)

    def test_document(self):
        self.assertEqual(lets_opening(FORK, (0,), (1, 0, 2)), (0, 1, 2, 3))
        self.refused(FORK, (0,), (0, 2), "shut", 1)
        self.refused(FORK, (0,), (0, 1), "open", -1)

    def test_faults(self):
        for thing in ODD + ([1, 0, 2],):
            if not isinstance(thing, tuple):
                self.refused(FORK, (0,), thing, "shape", -1)
        for deed in (3, -1, True, False, None, "0", (0,), [0], 1):
            self.refused(FORK, (0,), (1, deed, 2), "deed", 1)
        self.refused(FORK, (0,), (1, 0, 2, 2), "deed", 3)
        self.refused(FORK, (0,), (2, 7), "shut", 0)
        self.refused(FORK, (0, 1), (0,), "idle", 0)
        self.refused(FORK, (0, 1), (1, 0), "idle", 1)
        self.refused(FORK, (0, 1, 3), (1, 2), "idle", 1)
        self.refused(FORK, (0, 1, 3), (1, 9), "deed", 1)
        self.refused(FORK, (0,), (), "open", -1)
        self.refused(SPRING, (), (), "open", -1)
        self.refused(SPRING, (0,), (0,), "idle", 0)
        self.refused(SINK, (0,), (0,), "idle", 0)
        # A deed that takes what is not there and gives nothing new is shut first.
        self.refused(FORK, (1, 3), (2,), "shut", 0)
        self.refused(BARE, (), (0,), "deed", 0)

    def test_openings(self):
        self.assertEqual(opening_of(FORK, (1, 2, 3)), ())
        self.assertEqual(lets_opening(FORK, (1, 2, 3), ()), (1, 2, 3))
        self.assertEqual(opening_of(SPRING, ()), (0,))
        self.assertEqual(opening_of(BARE, ()), ())
        for book in some_books(150, 12):
            for lot in lots_of(book[0]):
                opening = opening_of(book, lot)
                self.assertEqual(lets_opening(book, lot, opening), closed(book, lot))
                self.assertEqual(opening == (), closed(book, lot) == lot)
                for k in range(len(opening)):
                    with self.assertRaises(InvalidPaper):
                        lets_opening(book, lot, opening + opening[k:k + 1])

    def test_runs(self):
        chance = Random(13)
        opened = 0
        for book in some_books(200, 13):
            fill = some_fill(chance, book[0])
            for near in NEARS:
                run = opening_run(book, fill, near)
                self.assertIs(is_run(book, run), True)
                good, end = can_be_done(book, fill, run)
                self.assertTrue(good)
                self.assertEqual(supported(end), closed(book, supported(fill)))
                for before, behind in zip(fractions(fill), fractions(end)):
                    self.assertLessEqual(abs(before - behind), fraction(near))
                opened += run != ()
        self.assertGreater(opened, 100)
        large = (3, (((10 ** 6, 0, 0), (0, 10 ** 6, 0)), ((0, 10 ** 6, 0), (1, 0, 10 ** 6))))
        good, end = can_be_done(large, ((1, 10 ** 12), NOUGHT, NOUGHT),
                                opening_run(large, ((1, 10 ** 12), NOUGHT, NOUGHT), (1, 10 ** 6)))
        self.assertEqual((good, supported(end)), (True, (0, 1, 2)))


class TrapsTest(unittest.TestCase):
    def test_document(self):
        self.assertEqual(all_traps(TOOL), ((), (0, 1), (0, 1, 2), (0, 2), (1,), (1, 2), (2,)))

    def test_edges(self):
        self.assertEqual(all_traps(BARE), ((), (0,), (0, 1), (1,)))
        self.assertEqual(all_traps(SINK), ((), (1,)))
        self.assertEqual(trap_within(SINK, (0, 1)), (1,))
        self.assertIs(is_trap(SINK, (0, 1)), False)
        self.assertEqual(all_traps(SPRING), ((), (0,)))
        self.assertEqual(trap_within(TOOL, (0,)), ())
        self.assertEqual(trap_within(TOOL, (0, 2)), (0, 2))
        self.assertIs(is_trap(GROW, (0,)), True)

    def test_all(self):
        for book in some_books(120, 14):
            size = book[0]
            lots = lots_of(size)
            traps = [lot for lot in lots if is_trap_plainly(book, lot)]
            self.assertEqual(all_traps(book), tuple(traps))
            for lot in lots:
                self.assertIs(is_trap(book, lot), lot in traps)
                self.assertIs(is_trap(book, lot), is_closed(turned_about(book), without(size, lot)))
                inner = [trap for trap in traps if set(trap) <= set(lot)]
                self.assertEqual(trap_within(book, lot), max(inner, key=len))
                self.assertTrue(all(set(trap) <= set(trap_within(book, lot)) for trap in inner))
            for one, other in combinations(traps[:12], 2):
                self.assertIn(tuple(sorted(set(one) | set(other))), traps)


class ClosingsTest(OpeningsTest):
    def test_document(self):
        self.assertEqual(lets_closing(FORK, (3,), (2, 0)), (0, 1, 2, 3))
        self.refused(FORK, (3,), (2, 0, 1), "idle", 2, lets_closing)

    def test_faults(self):
        for thing in (None, [2, 0], 0, "", True, {}):
            self.refused(FORK, (3,), thing, "shape", -1, lets_closing)
        for deed in (3, -1, False, None, 2):
            self.refused(FORK, (3,), (2, deed, 0), "deed", 1, lets_closing)
        self.refused(FORK, (3,), (0, 9), "shut", 0, lets_closing)
        self.refused(FORK, (1, 2), (2,), "shut", 0, lets_closing)
        self.refused(FORK, (3,), (2,), "open", -1, lets_closing)
        # A deed that gives nothing, turned about, takes nothing.
        self.refused(SINK, (), (), "open", -1, lets_closing)
        self.assertEqual(lets_closing(SINK, (), (0,)), (0,))

    def test_openings(self):
        self.assertEqual(closing_of(FORK, (0,)), ())
        for book in some_books(150, 15):
            size = book[0]
            for lot in lots_of(size):
                closing = closing_of(book, lot)
                self.assertEqual(lets_closing(book, lot, closing), closed(turned_about(book), lot))
                self.assertEqual(lets_closing(book, lot, closing),
                                 without(size, trap_within(book, without(size, lot))))
                self.assertEqual(closing == (), closed(turned_about(book), lot) == lot)

    def test_runs(self):
        chance = Random(16)
        moved = 0
        for book in some_books(200, 16):
            size = book[0]
            fill = some_fill(chance, size)
            for near in NEARS:
                begin, run = closing_run(book, fill, near)
                self.assertIs(is_run(book, run), True)
                self.assertEqual(can_be_done(book, begin, run), (True, fill))
                rest = without(size, trap_within(book, without(size, supported(fill))))
                self.assertEqual(supported(begin), rest)
                for before, behind in zip(fractions(begin), fractions(fill)):
                    self.assertLessEqual(abs(before - behind), fraction(near))
                moved += run != ()
        self.assertGreater(moved, 100)
        self.assertEqual(closing_run(FORK, FILL, HALF), (FILL, ()))
        begin, run = closing_run(FORK, (NOUGHT, NOUGHT, NOUGHT, TWO), HALF)
        self.assertEqual(supported(begin), (0, 1, 2, 3))
        self.assertEqual(sum(fractions(begin), Fraction(0)) > 0, True)


if __name__ == "__main__":
    unittest.main()
