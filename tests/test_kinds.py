"""Points 13 to 15: kinds, quotients, rows and fills."""

import unittest
from fractions import Fraction
from itertools import product as products

from stillhad.kinds import is_fill, is_integer, is_lot, is_number, is_price, is_quotient, is_row
from stillhad.quotients import less, minus, over, plus, product, quotient_of
from stillhad.rowsums import (
    fill_below, fill_minus, fill_plus, fill_times, open_of, priced, row_below, row_mixed, row_plus, row_times,
    support_of)
from tests.helpers import ENDLESS, HALF, NOUGHT, ODD, ONE, TWO, at_most, fraction, pair, tells

PRICES = tuple(pair(Fraction(top, bottom)) for top in range(5) for bottom in range(1, 5)) + (ENDLESS,)
LARGE = ((10 ** 12, 1), (1, 10 ** 12), (10 ** 12 + 1, 10 ** 12), (10 ** 30 + 1, 10 ** 24))


class KindsTest(unittest.TestCase):
    def test_document(self):
        self.assertEqual((is_quotient((0, 2)), is_quotient((True, 1)), is_price((1, 0)), is_lot(3, (2, 0))),
                         (False, False, True, False))

    def test_integers(self):
        for thing in (0, 5, -5, 10 ** 60):
            self.assertIs(is_integer(thing), True)
            self.assertIs(is_number(thing), thing >= 0)
        for thing in (True, False, None, "1", (1,), [1], ()):
            self.assertIs(is_integer(thing), False)
            self.assertIs(is_number(thing), False)

    def test_quotients(self):
        for thing in ((0, 1), (3, 2), (10 ** 59, 10 ** 59 + 1), (10 ** 59, 1)):
            self.assertIs(is_quotient(thing), True)
            self.assertIs(is_price(thing), True)
        self.assertIs(is_quotient(ENDLESS), False)
        self.assertIs(is_price(ENDLESS), True)
        wrong = ((0, 2), (2, 4), (0, 0), (2, 0), (-1, 2), (1, -2), (-1, -1), (True, 1), (1, True), (True, 0), (1, False),
                 (1,), (1, 1, 1), [1, 1], ("1", 1), (1, None), ((1, 1), 1))
        for thing in wrong + ODD:
            self.assertIs(is_quotient(thing), False, thing)
            self.assertIs(is_price(thing), False, thing)

    def test_tuples(self):
        for size in range(4):
            self.assertIs(is_fill(size, (ONE,) * size), True)
            self.assertIs(is_row(size, (ENDLESS,) * size), True)
            self.assertIs(is_fill(size, (ENDLESS,) * size), size == 0)
            self.assertIs(is_fill(size, (ONE,) * (size + 1)), False)
            self.assertIs(is_row(size + 1, (ONE,) * size), False)
            self.assertIs(is_row(size, [ONE] * size), False)
            self.assertIs(is_fill(size, [ONE] * size), False)
        for thing in ODD:
            self.assertIs(is_fill(1, thing), False)
            self.assertIs(is_row(1, thing), False)
        self.assertIs(is_fill(2, (ONE, (2, 4))), False)
        self.assertIs(is_row(2, (ONE, (2, 0))), False)

    def test_lots(self):
        for thing in ((), (0,), (2,), (0, 1, 2), (0, 2)):
            self.assertIs(is_lot(3, thing), True)
            self.assertIs(is_lot(0, thing), thing == ())
        for thing in ((3,), (-1,), (0, 0), (1, 0), (False,), (0, True), [0], (0, None), ("0",), None, 0, "0", [],
                      (0, 2, 1), (0, 10 ** 60)):
            self.assertIs(is_lot(3, thing), False, thing)


class QuotientsTest(unittest.TestCase):
    def test_document(self):
        self.assertEqual((quotient_of(0, 5), plus(HALF, (1, 3)), product(ENDLESS, NOUGHT), over(HALF, (3, 1))),
                         ((0, 1), (5, 6), (0, 1), (1, 6)))

    def test_all(self):
        for one, other in products(PRICES + LARGE, repeat=2):
            endless = ENDLESS in (one, other)
            if not endless:
                self.assertEqual(plus(one, other), pair(fraction(one) + fraction(other)))
                self.assertEqual(product(one, other), pair(fraction(one) * fraction(other)))
                self.assertIs(less(one, other), fraction(one) < fraction(other))
                if fraction(other) <= fraction(one):
                    self.assertEqual(minus(one, other), pair(fraction(one) - fraction(other)))
                if other != NOUGHT:
                    self.assertEqual(over(one, other), pair(fraction(one) / fraction(other)))
            else:
                self.assertEqual(plus(one, other), ENDLESS)
                self.assertEqual(product(one, other), NOUGHT if NOUGHT in (one, other) else ENDLESS)
                self.assertIs(less(one, other), one != ENDLESS)
                if other not in (ENDLESS, NOUGHT):
                    self.assertEqual(over(one, other), ENDLESS)
            self.assertTrue(is_price(plus(one, other)) and is_price(product(one, other)))

    def test_quotient_of(self):
        for top, bottom in products(range(7), range(1, 7)):
            self.assertEqual(quotient_of(top, bottom), pair(Fraction(top, bottom)))
        self.assertEqual(quotient_of(10 ** 40, 10 ** 50), (1, 10 ** 10))
        self.assertEqual(quotient_of(bottom=4, top=2), HALF)

    def test_laws(self):
        for one, two, three in products(PRICES[::2] + (ENDLESS,), repeat=3):
            self.assertEqual(plus(plus(one, two), three), plus(one, plus(three, two)))
            self.assertEqual(product(product(one, two), three), product(one, product(three, two)))
            self.assertEqual(product(one, plus(two, three)), plus(product(one, two), product(one, three)))


class RowsTest(unittest.TestCase):
    def test_document(self):
        self.assertEqual(priced(((0, 1), (1, 0), (1, 1)), (TWO, (0, 1), (3, 1))), (3, 1))
        self.assertEqual(row_mixed((((0, 1), (1, 0)), ((1, 1), (0, 1))), (HALF, HALF)), ((1, 2), (1, 0)))

    def test_nothing(self):
        self.assertEqual(priced((), ()), NOUGHT)
        self.assertEqual([row_plus((), ()), row_times((), ONE), fill_plus((), ()), fill_minus((), ()),
                          fill_times((), NOUGHT), open_of(()), support_of(())], [()] * 7)
        self.assertIs(row_below((), ()), True)
        self.assertIs(fill_below((), ()), True)
        self.assertEqual(row_mixed(((), ()), (ONE, NOUGHT)), ())

    def test_all(self):
        some = (NOUGHT, HALF, ONE, (10 ** 12, 7), ENDLESS)
        rows = list(products(some, repeat=2))
        for row, other in products(rows, repeat=2):
            self.assertEqual(row_plus(row, other), (plus(row[0], other[0]), plus(row[1], other[1])))
            self.assertIs(row_below(row, other), not less(other[0], row[0]) and not less(other[1], row[1]))
            for weight in (NOUGHT, HALF, TWO):
                mixed = row_mixed((row, other), (weight, ONE))
                self.assertEqual(mixed, row_plus(row_times(row, weight), other))
            if ENDLESS not in other:
                told = tells(row, [fraction(amount) for amount in other])
                self.assertEqual(priced(row, other), ENDLESS if told is None else pair(told))
                self.assertEqual(support_of(other), tuple(k for k in (0, 1) if other[k] != NOUGHT))
                self.assertIs(is_quotient(priced(row, other)), set(support_of(other)) <= set(open_of(row)))
                if ENDLESS not in row:
                    self.assertEqual(fill_plus(row, other), row_plus(row, other))
                    self.assertIs(fill_below(row, other), row_below(row, other))
                    if fill_below(row, other):
                        self.assertEqual(fill_plus(fill_minus(other, row), row), other)
            self.assertEqual(open_of(row), tuple(k for k in (0, 1) if row[k] != ENDLESS))
        self.assertEqual(row_times((ENDLESS, ONE), NOUGHT), (NOUGHT, NOUGHT))
        self.assertEqual(fill_times((TWO, HALF), HALF), (ONE, (1, 4)))
        self.assertEqual(fill_minus((TWO, HALF), (HALF, HALF)), ((3, 2), NOUGHT))

    def test_told_at_sums(self):
        rows = list(products((NOUGHT, HALF, ENDLESS), repeat=2))
        fills = list(products((NOUGHT, ONE, (2, 3)), repeat=2))
        for row, fill, other in products(rows, fills, fills):
            self.assertEqual(priced(row, fill_plus(fill, other)), plus(priced(row, fill), priced(row, other)))
            for factor in (NOUGHT, (5, 3)):
                self.assertEqual(priced(row, fill_times(fill, factor)), product(priced(row, fill), factor))
                self.assertEqual(priced(row_times(row, factor), fill), product(priced(row, fill), factor))
            if fill_below(fill, other):
                self.assertFalse(less(priced(row, other), priced(row, fill)))
            for more in rows:
                self.assertEqual(priced(row_plus(row, more), fill), plus(priced(row, fill), priced(more, fill)))
        self.assertTrue(at_most(1, None))


if __name__ == "__main__":
    unittest.main()
