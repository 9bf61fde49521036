"""Points 33 to 38: price rows, the most, its papers and runs for it."""

import unittest
from fractions import Fraction
from random import Random

from stillhad.bookchanges import beside, renamed, scaled, shuffled, with_deed
from stillhad.endlesspapers import endless_paper, lets_endless
from stillhad.errors import InvalidPaper, TooMuch
from stillhad.fluxpapers import flux_paper, lets_flux
from stillhad.mosts import most_of
from stillhad.pricekinds import is_price_row, keeps, never_falls, never_rises
from stillhad.pricepapers import lets_price, price_paper
from stillhad.quotients import less, plus, product, quotient_of
from stillhad.rests import at_rest, ranks_of
from stillhad.rowsums import fill_plus, fill_times
from stillhad.runfors import run_for
from stillhad.runkinds import is_run
from stillhad.wishes import worth_of
from tests.helpers import (
    BARE, ENDLESS, FILL, FORK, GROW, HALF, NOUGHT, ODD, ONE, SINK, SPRING, TOOL, TWO, WISH, at_most, can_be_done, closed,
    fields, fraction, fractions, moved, pair, some_books, some_fill, some_wish, supported, tells)

FIRST = (ONE, NOUGHT, ONE, ONE)
LARGE = 10 ** 12


def some_rows(chance, size):
    return tuple(chance.choice((NOUGHT, ONE, ONE, HALF, TWO, (3, 1), ENDLESS)) for _ in range(size))


def some_tasks(many, seed, **bounds):
    """Books, wishes and fills, the same for the same seed."""
    chance = Random(seed)
    for book in some_books(many, seed, **bounds):
        wish = some_wish(chance, book)
        if wish:
            yield book, wish, some_fill(chance, book[0])


class PriceKindsTest(unittest.TestCase):
    def test_document(self):
        self.assertEqual((never_rises(FORK, FIRST), keeps(FORK, 0, FIRST), keeps(FORK, 1, FIRST)), (True, False, True))
        self.assertIs(keeps(TOOL, 0, (NOUGHT, ENDLESS, ONE)), True)

    def test_edges(self):
        for row in ((ENDLESS, ENDLESS), (NOUGHT, ONE)):
            self.assertIs(never_rises(BARE, row), True)
            self.assertIs(never_falls(BARE, row), True)
        self.assertIs(never_rises(SPRING, (NOUGHT,)), True)
        self.assertIs(never_rises(SPRING, (ENDLESS,)), False)
        self.assertIs(never_falls(SPRING, (ENDLESS,)), True)
        for thing in ODD + ((ONE,) * 3, (ONE,) * 5, [ONE] * 4, (ONE, ONE, ONE, (2, 2)), (ONE, ONE, ONE, (True, 1))):
            self.assertIs(is_price_row(FORK, WISH, thing), False)
        self.assertIs(is_price_row(FORK, WISH, (ENDLESS,) * 4), True)
        self.assertIs(is_price_row(FORK, WISH, (HALF, HALF, HALF, ONE)), True)
        self.assertIs(is_price_row(FORK, (0, 0, 0, 2), (HALF, HALF, HALF, ONE)), False)
        self.assertIs(is_price_row(FORK, WISH, (HALF, HALF, (1, 3), ONE)), False)
        self.assertIs(is_price_row(FORK, WISH, (NOUGHT, NOUGHT, ONE, ONE)), False)

    def test_all(self):
        chance = Random(21)
        for book, wish, _ in some_tasks(300, 21):
            row = some_rows(chance, book[0])
            rises = falls = False
            for k, (take, give) in enumerate(book[1]):
                before, behind = tells(row, take), tells(row, give)
                self.assertIs(keeps(book, k, row), before == behind)
                rises = rises or not at_most(behind, before)
                falls = falls or not at_most(before, behind)
            self.assertIs(never_rises(book, row), not rises)
            self.assertIs(never_falls(book, row), not falls)
            above = all(price == ENDLESS or fraction(price) >= part for price, part in zip(row, wish))
            self.assertIs(is_price_row(book, wish, row), above and not rises)


class MostTest(unittest.TestCase):
    def test_document(self):
        self.assertEqual(most_of(FORK, WISH, FILL), ONE)
        self.assertEqual(most_of(SPRING[:1] + ((((0,), (1,)),),), (1,), (NOUGHT,)), ENDLESS)
        self.assertEqual(most_of(TOOL, (0, 0, 1), (TWO, NOUGHT, NOUGHT)), NOUGHT)
        self.assertEqual(most_of(TOOL, (0, 0, 1), (TWO, (1, 9), NOUGHT)), TWO)

    def test_edges(self):
        self.assertEqual(most_of(BARE, (2, 3), (HALF, ONE)), (4, 1))
        self.assertEqual(most_of(BARE, (0, 3), (HALF, NOUGHT)), NOUGHT)
        self.assertEqual(most_of(GROW, (0, 1), (NOUGHT, HALF)), HALF)
        self.assertEqual(most_of(GROW, (0, 1), ((1, LARGE), NOUGHT)), ENDLESS)
        self.assertEqual(most_of(FORK, (0, 0, 0, 10 ** 6), ((LARGE, 7), NOUGHT, (1, LARGE), NOUGHT)),
                         product((10 ** 6, 1), product(HALF, plus((LARGE, 7), (1, LARGE)))))
        idle = (2, (((0, 0), (0, 0)), ((1, 0), (1, 0))))
        self.assertEqual(most_of(idle, (0, 1), (ONE, TWO)), TWO)
        # What grows only what is not wished is not endless.
        self.assertEqual(most_of((2, (((1, 0), (2, 0)),)), (0, 1), (ONE, ONE)), ONE)
        self.assertEqual(most_of((2, (((1, 0), (2, 0)), ((1, 0), (0, 1)))), (0, 1), (ONE, ONE)), ENDLESS)

    def test_papers(self):
        seen = {ENDLESS: 0, NOUGHT: 0, "worth": 0, "more": 0}
        for book, wish, fill in some_tasks(1200, 22):
            most = most_of(book, wish, fill)
            worth = worth_of(book, wish, fill)
            kind = most if most in (ENDLESS, NOUGHT) else ("worth" if most == worth else "more")
            seen[kind] += 1
            self.assertEqual(most_of(book, wish, fill), most)
            if most == ENDLESS:
                self.endless(book, wish, fill)
            else:
                self.bounded(book, wish, fill, most)
            if at_rest(book, fill):
                self.assertEqual(most, worth)
            if ranks_of(book) is not None:
                self.assertNotEqual(most, ENDLESS)
            wished = any(wish[ware] for ware in closed(book, supported(fill)))
            self.assertEqual(most != NOUGHT, wished)
        self.assertGreater(min(seen.values()), 30, seen)

    def bounded(self, book, wish, fill, most):
        self.assertIsNone(endless_paper(book, wish, fill))
        row = price_paper(book, wish, fill)
        self.assertIs(is_price_row(book, wish, row), True)
        self.assertEqual(lets_price(book, wish, fill, row), most)
        self.assertEqual(pair(tells(row, fractions(fill))), most)
        for take, give in book[1]:
            self.assertTrue(at_most(tells(row, give), tells(row, take)))
        paper = flux_paper(book, wish, fill)
        self.assertEqual(lets_flux(book, wish, fill, paper), most)
        amounts = self.by_flux(book, fill, fractions(fill), paper[1])
        self.assertEqual(pair(sum(amount * part for amount, part in zip(amounts, wish))), most)

    def endless(self, book, wish, fill):
        self.assertIsNone(price_paper(book, wish, fill))
        self.assertIsNone(flux_paper(book, wish, fill))
        paper = endless_paper(book, wish, fill)
        gain = lets_endless(book, wish, fill, paper)
        amounts = self.by_flux(book, fill, [Fraction(0)] * book[0], paper[1])
        self.assertEqual(pair(sum(amount * part for amount, part in zip(amounts, wish))), gain)
        self.assertGreater(fraction(gain), 0)

    def by_flux(self, book, fill, amounts, flux):
        lot = closed(book, supported(fill))
        for deed, times in zip(book[1], flux):
            if fraction(times):
                self.assertTrue(all(ware in lot for ware, number in enumerate(deed[0]) if number))
            amounts = moved(amounts, deed, fraction(times))
        self.assertGreaterEqual(min(amounts), 0)
        return amounts

    def test_large(self):
        chance = Random(23)

        def number():
            return chance.randint(0, 10 ** 6) if chance.random() < 0.5 else 0

        for _ in range(25):
            size, many = chance.choice(((8, 10), (8, 10), (12, 16)))
            ends = (size - 2, size - 1)
            book = (size, tuple((tuple(0 if ware in ends else number() for ware in range(size)),
                                 tuple(number() for ware in range(size))) for _ in range(many)))
            wish = tuple(chance.randint(1, 10 ** 6) if ware in ends else 0 for ware in range(size))
            fill = tuple(pair(Fraction(chance.randint(0, LARGE), chance.randint(1, LARGE))) for ware in range(size))
            most = most_of(book, wish, fill)
            if most == ENDLESS:
                self.endless(book, wish, fill)
            else:
                self.bounded(book, wish, fill, most)

    def test_many_ways(self):
        # Fills of noughts leave many ways to stand still, of which none may be gone round for ever.
        for book, wish, fill in some_tasks(150, 24, wares=8, deeds=10, top=1):
            bare = tuple(amount if ware == 0 else NOUGHT for ware, amount in enumerate(fill))
            most = most_of(book, wish, bare)
            if most == ENDLESS:
                self.endless(book, wish, bare)
            else:
                self.bounded(book, wish, bare, most)

    def test_consequences(self):
        chance = Random(25)
        for book, wish, fill in some_tasks(150, 25):
            most = most_of(book, wish, fill)
            other = some_fill(chance, book[0])
            both = most_of(book, wish, fill_plus(fill, other))
            self.assertFalse(less(both, plus(most, most_of(book, wish, other))))
            self.assertEqual(most_of(book, wish, fill_times(fill, (7, 3))), product(most, (7, 3)))
            self.assertEqual(most_of(book, tuple(3 * part for part in wish), fill), product(most, (3, 1)))
            order = tuple(chance.sample(range(book[0]), book[0]))
            back = [order.index(ware) for ware in range(book[0])]
            self.assertEqual(most_of(renamed(book, order), tuple(wish[ware] for ware in back),
                                     tuple(fill[ware] for ware in back)), most)
            if book[1]:
                places = tuple(chance.sample(range(len(book[1])), len(book[1])))
                self.assertEqual(most_of(shuffled(book, places), wish, fill), most)
                deed = chance.randrange(len(book[1]))
                self.assertEqual(most_of(scaled(book, deed, 5), wish, fill), most)
                self.assertEqual(most_of(with_deed(book, *book[1][deed]), wish, fill), most)
            self.assertEqual(most_of(beside(book, TOOL), wish + (0, 0, 1), fill + (TWO, ONE, HALF)),
                             plus(most, (5, 2)))


class PricePaperTest(unittest.TestCase):
    def refused(self, thing, word, at, book=FORK, wish=WISH):
        with self.assertRaises(InvalidPaper) as caught:
            lets_price(book, wish, (TWO,) + (NOUGHT,) * (book[0] - 1), thing)
        self.assertEqual(fields(caught.exception), (word, at), thing)

    def test_document(self):
        self.assertEqual(lets_price(FORK, WISH, FILL, (HALF, HALF, HALF, ONE)), ONE)
        self.refused((NOUGHT, NOUGHT, ONE, ONE), "rises", 1)

    def test_faults(self):
        for thing in ODD + ((ONE,) * 3, (ONE,) * 5, [ONE] * 4, (ONE, ONE, ONE, (2, 2)), (ONE, ONE, ONE, (True, 1))):
            self.refused(thing, "row", -1)
        self.refused((ONE, ONE, ONE, HALF), "below", 3)
        self.refused((NOUGHT, ONE, ONE, HALF), "below", 3)
        self.refused((NOUGHT, HALF, ONE, ONE), "rises", 0)
        self.refused((ONE, ENDLESS, ENDLESS, ONE), "rises", 0)
        self.refused((ONE, NOUGHT, HALF, ONE), "rises", 2)
        self.refused((NOUGHT, NOUGHT), "below", 0, BARE, (1, 2))
        self.refused((ENDLESS, ONE), "below", 1, BARE, (1, 2))
        self.refused((ENDLESS,), "rises", 0, SPRING, (1,))
        self.assertEqual(lets_price(FORK, WISH, FILL, (ENDLESS,) * 4), ENDLESS)
        self.assertEqual(lets_price(FORK, WISH, (NOUGHT,) * 4, (ENDLESS,) * 4), NOUGHT)
        self.assertEqual(lets_price(FORK, WISH, FILL, ((5, 2), TWO, TWO, (3, 2))), (5, 1))


class FluxPaperTest(unittest.TestCase):
    def refused(self, thing, word, at, book=FORK, wish=WISH, fill=FILL, check=lets_flux):
        with self.assertRaises(InvalidPaper) as caught:
            check(book, wish, fill, thing)
        self.assertEqual(fields(caught.exception), (word, at), thing)

    def test_document(self):
        self.assertEqual(lets_flux(FORK, WISH, FILL, ((1, 0, 2), (ONE, ONE, ONE))), ONE)
        self.refused(((1, 0, 2), (TWO, ONE, ONE)), "lacks", 0)
        self.refused(((), (ONE,)), "within", 0, TOOL, (0, 0, 1), (TWO, NOUGHT, NOUGHT))

    def test_faults(self):
        good = (ONE, ONE, ONE)
        for check in (lets_flux, lets_endless):
            for thing in ODD + (((1, 0, 2), good, ()), [(1, 0, 2), good], (good,)):
                self.refused(thing, "shape", -1, check=check)
            for thing, word, at in (
                    (([1, 0, 2], None), "shape", -1), ((None, good), "shape", -1), (((1, 3), None), "deed", 1),
                    (((True,), None), "deed", 0), (((1, 1), None), "deed", 1), (((2, 0), good), "shut", 0),
                    (((), good), "open", -1), (((1, 0), good), "open", -1)):
                self.refused(thing, word, at, check=check)
            self.refused(((0,), good), "idle", 0, fill=(ONE, ONE, ONE, ONE), check=check)
            for flux in (None, [ONE] * 3, good[1:], good + (ONE,), (ONE, ONE, ENDLESS), (ONE, ONE, (2, 2)),
                         (ONE, ONE, (-1, 1)), (True, ONE, ONE)):
                self.refused(((1, 0, 2), flux), "flux", -1, check=check)
            self.refused(((), (NOUGHT, ONE, ONE)), "within", 1, fill=(NOUGHT, ONE, NOUGHT, NOUGHT), check=check)
            self.refused(((), (NOUGHT, NOUGHT, ONE)), "within", 2, fill=(NOUGHT, ONE, NOUGHT, NOUGHT), check=check)
            self.refused(((), (ONE,)), "within", 0, SINK, (0, 1), (NOUGHT, ONE), check)
        self.refused(((2,), (NOUGHT, NOUGHT, TWO)), "lacks", 1, fill=(NOUGHT, ONE, ONE, NOUGHT))
        self.refused(((2,), (NOUGHT, NOUGHT, TWO)), "lacks", 2, fill=(NOUGHT, TWO, ONE, NOUGHT))
        self.assertEqual(lets_flux(FORK, WISH, FILL, ((0, 1, 2), (NOUGHT,) * 3)), NOUGHT)
        self.assertEqual(lets_flux(FORK, WISH, FILL, ((0, 1, 2), (HALF, HALF, (1, 4)))), (1, 4))

    def test_endless(self):
        self.assertEqual(lets_endless(GROW, (0, 1), (HALF, NOUGHT), ((0,), ((3, 1),))), (6, 1))
        self.refused(((0,), (NOUGHT,)), "gain", -1, GROW, (0, 1), (HALF, NOUGHT), lets_endless)
        self.refused(((), ((3, 1),)), "open", -1, GROW, (0, 1), (HALF, NOUGHT), lets_endless)
        self.refused(((), ((3, 1),)), "within", 0, GROW, (0, 1), (NOUGHT, HALF), lets_endless)
        self.refused(((0, 1, 2), (ONE, ONE, NOUGHT)), "lowers", 0, check=lets_endless)
        self.refused(((0, 1, 2), (NOUGHT, NOUGHT, ONE)), "lowers", 1, check=lets_endless)
        # It lowers a ware and adds nothing: the first of both counts.
        self.refused(((), (ONE,)), "lowers", 0, (2, (((2, 0), (1, 0)),)), (0, 1), (ONE, NOUGHT), lets_endless)
        self.assertEqual(lets_endless(SPRING, (2,), (NOUGHT,), ((0,), (HALF,))), ONE)


class RunForTest(unittest.TestCase):
    def good(self, book, wish, fill, worth):
        run = run_for(book, wish, fill, worth)
        self.assertIs(is_run(book, run), True)
        done, end = can_be_done(book, fill, run)
        self.assertTrue(done)
        self.assertFalse(less(worth_of(book, wish, end), worth))

    def refused(self, book, wish, fill, worth, most):
        with self.assertRaises(TooMuch) as caught:
            run_for(book, wish, fill, worth)
        self.assertEqual(fields(caught.exception), (most,))

    def test_document(self):
        self.refused(FORK, WISH, FILL, ONE, ONE)

    def test_edges(self):
        for worth in (NOUGHT, HALF, (LARGE - 1, LARGE)):
            self.good(FORK, WISH, FILL, worth)
        self.refused(FORK, WISH, FILL, (LARGE + 1, LARGE), ONE)
        # A worth that is there already can be had, even if it is the most.
        self.good(FORK, WISH, (NOUGHT, NOUGHT, NOUGHT, TWO), TWO)
        self.good(FORK, WISH, (NOUGHT,) * 4, NOUGHT)
        self.refused(FORK, WISH, (NOUGHT, NOUGHT, NOUGHT, TWO), (LARGE * 2 + 1, LARGE), TWO)
        self.refused(FORK, WISH, (NOUGHT,) * 4, (1, LARGE), NOUGHT)
        self.refused(TOOL, (0, 0, 1), (TWO, NOUGHT, NOUGHT), (1, LARGE), NOUGHT)
        self.good(TOOL, (0, 0, 1), (TWO, (1, LARGE), NOUGHT), (2 * LARGE - 1, LARGE))
        self.refused(BARE, (1, 0), (ONE, ONE), (LARGE + 1, LARGE), ONE)
        self.good(SPRING, (1,), (NOUGHT,), (LARGE, 1))
        self.good(GROW, (0, 1), ((1, LARGE), NOUGHT), (LARGE, 1))
        self.refused(GROW, (0, 1), (NOUGHT, ONE), TWO, ONE)

    def test_all(self):
        refused = found = endless = 0
        for book, wish, fill in some_tasks(2000, 26):
            most = most_of(book, wish, fill)
            if most == ENDLESS:
                endless += 1
                for worth in (NOUGHT, (7, 3), (LARGE, 1)):
                    self.good(book, wish, fill, worth)
                continue
            start = worth_of(book, wish, fill)
            self.good(book, wish, fill, start)
            self.refused(book, wish, fill, plus(most, (1, LARGE)), most)
            if start == most:
                continue
            self.refused(book, wish, fill, most, most)
            refused += 1
            for share in (Fraction(1, 2), 1 - Fraction(1, 10 ** 6)):
                worth = pair(fraction(start) + share * (fraction(most) - fraction(start)))
                self.good(book, wish, fill, worth)
                found += 1
        self.assertGreater(min(refused, found, endless), 50)
        self.assertEqual(quotient_of(2, 4), HALF)


if __name__ == "__main__":
    unittest.main()
