"""Points 43 to 49: tariffs, corners, needless rows, spots, the tariff of a book and a wish."""

import unittest
from fractions import Fraction
from itertools import combinations
from random import Random

from stillhad.corners import corner_rows, corners_of
from stillhad.errors import InvalidPaper, NotUsable
from stillhad.lots import closed_lots
from stillhad.mosts import most_of
from stillhad.partings import books_apart, tariffs_apart
from stillhad.pricekinds import is_price_row
from stillhad.pricepapers import price_paper
from stillhad.spots import lets_spot, spot_of
from stillhad.tariffchecks import lets_tariff
from stillhad.tariffkinds import is_tariff, least_at, least_of, told_by
from stillhad.tariffs import tariff_of
from stillhad.trimming import is_needless, lets_mixture, mixture_of, trimmed
from tests.helpers import (
    BARE, ENDLESS, FORK, GROW, HALF, LIMIT_WISH, NOUGHT, ODD, ONE, SINK, SPRING, TOOL, TWO, WISH, closed, fields,
    fraction, is_mixture, is_spot, least_plainly, limit_book, pair, some_books, some_fill, some_tariff, some_wish)

MIDDLE = ((NOUGHT, TWO), (ONE, ONE), (TWO, NOUGHT))
TOOLS = ((NOUGHT, ENDLESS, ONE), (ONE, NOUGHT, ONE))
FORKS = ((ONE, NOUGHT, ONE, ONE), (ONE, ONE, NOUGHT, ONE), (HALF, HALF, HALF, ONE))
GRAIN = (1, 10 ** 12)


def priced_at(rows, fill):
    """The least, as a price."""
    least = least_plainly(rows, fill)
    return ENDLESS if least is None else pair(least)


def some_tariffs(many, seed, most=4):
    chance = Random(seed)
    for _ in range(many):
        yield some_tariff(chance, chance.randint(0, most), rows=6, top=2)


def solved(lines, rest):
    """The one solution of equations, None if there is none or more."""
    rows = [list(map(Fraction, line)) + [Fraction(one)] for line, one in zip(lines, rest)]
    many = len(lines[0]) if lines else 0
    done = 0
    for column in range(many):
        pivot = next((k for k in range(done, len(rows)) if rows[k][column]), None)
        if pivot is None:
            return None
        rows[done], rows[pivot] = rows[pivot], rows[done]
        rows[done] = [one / rows[done][column] for one in rows[done]]
        for k in range(len(rows)):
            if k != done and rows[k][column]:
                rows[k] = [one - rows[k][column] * own for one, own in zip(rows[k], rows[done])]
        done += 1
    return [rows[k][-1] for k in range(many)] if all(not row[-1] for row in rows[many:]) else None


def corners_plainly(book, wish, lot):
    """Corners by trying all choices of as many limits as there are prices."""
    limits = [([int(ware == one) for one in lot], wish[ware]) for ware in lot]
    for take, give in book[1]:
        if all(ware in lot for ware, number in enumerate(take) if number):
            limits.append(([take[ware] - give[ware] for ware in lot], 0))
    found = set()
    for chosen in combinations(limits, len(lot)):
        prices = solved([line for line, rest in chosen], [rest for line, rest in chosen])
        if prices is None:
            continue
        if all(sum(number * price for number, price in zip(line, prices)) >= rest for line, rest in limits):
            at = dict(zip(lot, prices))
            found.add(tuple(pair(at[ware]) if ware in at else ENDLESS for ware in range(book[0])))
    return tuple(sorted(found))


class TariffKindsTest(unittest.TestCase):
    def test_document(self):
        self.assertEqual(least_of(TOOLS, (TWO, NOUGHT, HALF)), HALF)
        self.assertEqual(told_by(TOOLS, (TWO, HALF, HALF)), (1,))
        self.assertEqual(least_at(TOOLS, (ENDLESS, NOUGHT, HALF)), HALF)

    def test_kinds(self):
        for many, thing in ((0, ()), (0, ((),)), (1, ()), (1, ((ENDLESS,),)), (2, MIDDLE), (3, TOOLS), (9, ()),
                            (1, ((NOUGHT,), (ENDLESS,), (ONE,)))):
            self.assertIs(is_tariff(many, thing), True)
        for many, thing in ((0, ((), ())), (0, ((ONE,),)), (1, ((),)), (2, MIDDLE[::-1]), (2, MIDDLE[:1] * 2),
                            (2, list(MIDDLE)), (2, MIDDLE + (None,)), (2, MIDDLE[:1] + ([ONE, ONE],)), (3, MIDDLE),
                            (1, ((ONE,), (ENDLESS,))), (1, (((2, 2),),)), (1, (((1, True),),)), (1, ((ONE,), None))):
            self.assertIs(is_tariff(many, thing), False)
        for thing in ODD:
            self.assertIs(is_tariff(1, thing), thing == () and isinstance(thing, tuple))

    def test_edges(self):
        for fill in ((), (NOUGHT,), (ONE, TWO)):
            self.assertEqual(least_of((), fill), ENDLESS)
            self.assertEqual(told_by((), fill), ())
            self.assertEqual(least_at((), fill), ENDLESS)
        self.assertEqual(least_of(((),), ()), NOUGHT)
        self.assertEqual(told_by(((),), ()), (0,))
        self.assertEqual(least_at(((),), ()), NOUGHT)
        self.assertEqual(told_by(((ENDLESS,),), (ONE,)), ())
        self.assertEqual(told_by(((ENDLESS,),), (NOUGHT,)), (0,))
        self.assertEqual(told_by(TOOLS, (NOUGHT, NOUGHT, ONE)), (0, 1))
        self.assertEqual(told_by(MIDDLE, (ONE, ONE)), (0, 1, 2))
        self.assertEqual(least_at(TOOLS, (ENDLESS, ENDLESS, NOUGHT)), ENDLESS)
        self.assertEqual(least_at(MIDDLE, (NOUGHT, ENDLESS)), NOUGHT)
        self.assertEqual(least_at(((ENDLESS, NOUGHT), (ONE, ENDLESS)), (NOUGHT, ENDLESS)), NOUGHT)

    def test_all(self):
        chance = Random(51)
        for rows in some_tariffs(200, 51):
            fill = some_fill(chance, len(rows[0]) if rows else 2)
            least = priced_at(rows, fill)
            self.assertEqual(least_of(rows, fill), least)
            self.assertEqual(least_at(rows, fill), least)
            told = tuple(k for k, row in enumerate(rows) if priced_at((row,), fill) == least)
            self.assertEqual(told_by(rows, fill), () if least == ENDLESS else told)


class CornersTest(unittest.TestCase):
    def refused(self, book, wish, lot, word):
        with self.assertRaises(NotUsable) as caught:
            corners_of(book, wish, lot)
        self.assertEqual(fields(caught.exception), (word, -1))

    def test_document(self):
        self.assertEqual(corners_of(TOOL, (0, 0, 1), (0, 2)), (TOOLS[0],))
        self.assertEqual(len(corner_rows(TOOL, (0, 0, 1))), 7)

    def test_edges(self):
        self.assertEqual(corners_of(FORK, WISH, ()), ((ENDLESS,) * 4,))
        self.refused(FORK, WISH, (0,), "lot")
        self.refused(FORK, WISH, (1, 2), "lot")
        self.refused(FORK, (0, 0, 1, 1), (0,), "wish")
        self.refused(SPRING, (1,), (), "lot")
        self.assertEqual(corners_of(SPRING, (1,), (0,)), ())
        self.assertEqual(corner_rows(SPRING, (1,)), ())
        self.assertEqual(corner_rows((1, ()), (3,)), ((ENDLESS,), ((3, 1),)))
        self.assertEqual(corners_of(BARE, (2, 5), (1,)), ((ENDLESS, (5, 1)),))
        # The end ware without a wish has the price of what it comes from at some corner.
        ends = (3, (((1, 0, 0), (0, 1, 0)), ((1, 0, 0), (0, 0, 1))))
        self.assertEqual(corners_of(ends, (0, 1, 0), (0, 1, 2)), ((ONE, ONE, NOUGHT), (ONE, ONE, ONE)))

    def test_all(self):
        chance = Random(52)
        many = 0
        for book in some_books(150, 52, wares=4, deeds=4):
            wish = some_wish(chance, book)
            if not wish:
                continue
            rows = []
            for lot in closed_lots(book):
                self.assertEqual(closed(book, lot), lot)
                found = corners_of(book, wish, lot)
                self.assertEqual(found, corners_plainly(book, wish, lot))
                rows += found
            self.assertEqual(corner_rows(book, wish), tuple(sorted(rows)))
            many = max(many, len(rows))
            for row in rows:
                self.assertIs(is_price_row(book, wish, row), True)
        self.assertGreater(many, 12)

    def test_steep(self):
        # Many limits meet in few points, and some deeds stand there twice.
        chance = Random(53)
        for _ in range(40):
            deeds = tuple(
                (tuple(chance.randint(0, 3) for _ in range(3)) + (0,), tuple(chance.randint(0, 1) for _ in range(4)))
                for _ in range(4))
            book = (4, deeds + deeds[:1] + tuple((take, give[:3] + (give[3] + 1,)) for take, give in deeds[:2]))
            for lot in closed_lots(book):
                self.assertEqual(corners_of(book, (0, 0, 0, 2), lot), corners_plainly(book, (0, 0, 0, 2), lot))

    def test_limits(self):
        for seed in range(12):
            book = limit_book(seed)
            rows = corner_rows(book, LIMIT_WISH)
            parts = [corners_of(book, LIMIT_WISH, lot) for lot in closed_lots(book)]
            self.assertEqual(rows, tuple(sorted(row for part in parts for row in part)))
            for row in rows:
                self.assertIs(is_price_row(book, LIMIT_WISH, row), True)
            for part in parts:
                self.not_halfway(part)

    def not_halfway(self, rows):
        """No row is the middle of two others, and none is a mixture of others."""
        for one, other in combinations(rows[:12], 2):
            middle = tuple(ENDLESS if price == ENDLESS else pair((fraction(price) + fraction(more)) / 2)
                           for price, more in zip(one, other))
            self.assertNotIn(middle, rows)


class TrimmingTest(unittest.TestCase):
    def refused(self, rows, place, thing, word, at):
        with self.assertRaises(InvalidPaper) as caught:
            lets_mixture(rows, place, thing)
        self.assertEqual(fields(caught.exception), (word, at), thing)

    def test_document(self):
        self.assertEqual(lets_mixture(MIDDLE, 1, mixture_of(MIDDLE, 1)), (ONE, ONE))
        self.assertEqual(trimmed(MIDDLE), (MIDDLE[0], MIDDLE[2]))
        self.refused(MIDDLE, 1, (ONE, NOUGHT, NOUGHT), "above", 1)

    def test_edges(self):
        for alone in ((), (ENDLESS,), (NOUGHT, NOUGHT), (ENDLESS, ENDLESS), (ONE, ENDLESS)):
            self.assertIs(is_needless((alone,), 0), False)
            self.assertIsNone(mixture_of((alone,), 0))
            self.assertEqual(trimmed((alone,)), (alone,))
        self.assertEqual(trimmed(()), ())
        two = ((ENDLESS,), (ONE,))
        self.assertEqual([is_needless(two, place) for place in (0, 1)], [True, False])
        self.assertEqual(mixture_of(two, 0), (NOUGHT, ONE))
        self.assertEqual(trimmed(two), ((ONE,),))
        # A row open at less is not needed where another one is open at more and nowhere above it.
        self.assertEqual(trimmed(((NOUGHT, NOUGHT), (NOUGHT, ENDLESS))), ((NOUGHT, NOUGHT),))
        self.assertEqual(trimmed(((NOUGHT, ENDLESS), (ONE, NOUGHT))), ((NOUGHT, ENDLESS), (ONE, NOUGHT)))
        self.assertEqual(trimmed(((ONE, ENDLESS), (ONE, NOUGHT))), ((ONE, NOUGHT),))
        # Rows of which each one is nearly needless.
        near = tuple(sorted(((NOUGHT, TWO), ((10 ** 6 - 1, 10 ** 6), ONE), (TWO, NOUGHT))))
        self.assertEqual(trimmed(near), near)
        far = tuple(sorted(((NOUGHT, TWO), ((10 ** 6 + 1, 10 ** 6), ONE), (TWO, NOUGHT))))
        self.assertEqual(trimmed(far), ((NOUGHT, TWO), (TWO, NOUGHT)))

    def test_faults(self):
        for thing in ODD + ((NOUGHT, ONE), (NOUGHT,) * 4, [HALF, NOUGHT, HALF], (HALF, NOUGHT, (2, 4)),
                            (ENDLESS, NOUGHT, NOUGHT), (HALF, NOUGHT, (1, -2))):
            self.refused(MIDDLE, 1, thing, "weights", -1)
        self.refused(MIDDLE, 1, (NOUGHT, ONE, NOUGHT), "place", -1)
        self.refused(MIDDLE, 1, (HALF, HALF, HALF), "place", -1)
        self.refused(MIDDLE, 1, (HALF, NOUGHT, (499999, 10 ** 6)), "sum", -1)
        self.refused(MIDDLE, 1, (ONE, NOUGHT, ONE), "sum", -1)
        self.refused(MIDDLE, 1, (NOUGHT, NOUGHT, NOUGHT), "sum", -1)
        self.refused(MIDDLE, 1, (NOUGHT, NOUGHT, ONE), "above", 0)
        self.refused(MIDDLE, 0, (NOUGHT, ONE, NOUGHT), "above", 0)
        self.refused(MIDDLE, 1, ((2, 3), NOUGHT, (1, 3)), "above", 1)
        self.refused(TOOLS, 1, (ONE, NOUGHT), "above", 1)
        self.refused(((ENDLESS, NOUGHT), (NOUGHT, ENDLESS)), 1, (ONE, NOUGHT), "above", 0)
        # A row that is endless there has no part in it.
        self.assertEqual(lets_mixture(((ENDLESS,), (ONE,), (TWO,)), 2, (NOUGHT, ONE, NOUGHT)), (ONE,))
        self.assertEqual(lets_mixture(((ENDLESS,), (ONE,), (TWO,)), 0, (NOUGHT, HALF, HALF)), ((3, 2),))
        self.refused(((),), 0, (ONE,), "place", -1)
        self.refused(((),), 0, (NOUGHT,), "sum", -1)

    def test_all(self):
        chance = Random(54)
        counts = [0, 0]
        for rows in some_tariffs(400, 54):
            kept = []
            for place in range(len(rows)):
                needless = is_needless(rows, place)
                counts[needless] += 1
                weights, spot = mixture_of(rows, place), spot_of(rows, place)
                if needless:
                    self.assertTrue(is_mixture(rows, place, weights))
                    lets_mixture(rows, place, weights)
                    self.assertIsNone(spot)
                else:
                    self.assertIsNone(weights)
                    self.assertTrue(is_spot(rows, place, spot))
                    kept.append(rows[place])
            # Needless rows may be struck all at once, or one by one from either end.
            self.assertEqual(trimmed(rows), tuple(kept))
            for order in (range(len(rows)), reversed(range(len(rows)))):
                left = list(rows)
                for row in [rows[place] for place in order]:
                    if is_needless(tuple(left), left.index(row)):
                        left.remove(row)
                self.assertEqual(tuple(left), tuple(kept))
            for _ in range(5):
                fill = some_fill(chance, len(rows[0]) if rows else 1)
                self.assertEqual(least_of(trimmed(rows), fill), least_of(rows, fill))
        self.assertGreater(min(counts), 100)

    def test_many_rows(self):
        # Of a bow that bends up just the ends are needed, of one that bends down all, but not what lies between.
        high = [((k, 1), (1600 - k * k, 1)) for k in range(41)]
        self.assertEqual(trimmed(tuple(sorted(high))), tuple(sorted((high[0], high[-1]))))
        low = [((k, 1), pair(Fraction(1600, k + 1))) for k in range(41)]
        between = [tuple(pair((fraction(price) + fraction(more)) / 2) for price, more in zip(one, other))
                   for one, other in zip(low, low[1:])]
        self.assertEqual(trimmed(tuple(sorted(low + between))), tuple(sorted(low)))


class SpotsTest(unittest.TestCase):
    def refused(self, rows, place, thing, word, at):
        with self.assertRaises(InvalidPaper) as caught:
            lets_spot(rows, place, thing)
        self.assertEqual(fields(caught.exception), (word, at), thing)

    def test_document(self):
        self.assertEqual(lets_spot(TOOLS, 0, (TWO, NOUGHT, HALF)), TWO)
        self.assertEqual(lets_spot(TOOLS, 1, (TWO, HALF, HALF)), ENDLESS)

    def test_edges(self):
        self.assertEqual(spot_of(((),), 0), ())
        self.assertEqual(lets_spot(((),), 0, ()), ENDLESS)
        self.assertEqual(lets_spot(((ENDLESS,),), 0, spot_of(((ENDLESS,),), 0)), ENDLESS)
        self.assertEqual(lets_spot(((NOUGHT, NOUGHT),), 0, (GRAIN, TWO)), ENDLESS)
        self.assertIsNone(spot_of(MIDDLE, 1))
        self.assertEqual(lets_spot(MIDDLE, 0, (ONE, GRAIN)), pair(1 - Fraction(1, 10 ** 12)))

    def test_faults(self):
        for thing in ODD + ((TWO, HALF), (TWO, HALF, HALF, ONE), [TWO, NOUGHT, HALF], (TWO, NOUGHT, (2, 4)),
                            (TWO, NOUGHT, ENDLESS)):
            if thing != ():
                self.refused(TOOLS, 0, thing, "fill", -1)
        self.refused(TOOLS, 0, (), "fill", -1)
        self.refused(TOOLS, 0, (TWO, HALF, HALF), "support", -1)
        self.refused(TOOLS, 0, (TWO, NOUGHT, NOUGHT), "support", -1)
        self.refused(TOOLS, 1, (TWO, NOUGHT, HALF), "support", -1)
        self.refused(MIDDLE, 0, (ONE, ONE), "least", 1)
        self.refused(MIDDLE, 1, (ONE, ONE), "least", 0)
        self.refused(MIDDLE, 1, (ONE, TWO), "least", 2)
        self.refused(MIDDLE, 2, (ONE, GRAIN), "least", 0)
        self.refused(MIDDLE, 2, (ONE, ONE), "least", 0)
        self.refused(((NOUGHT,), (ENDLESS,)), 1, (NOUGHT,), "least", 0)


class TariffTest(unittest.TestCase):
    def good(self, book, wish, chance, tries=5):
        """The tariff is what the document says, by papers and at drawn fills."""
        rows = tariff_of(book, wish)
        self.assertIs(is_tariff(book[0], rows), True)
        self.assertEqual(lets_tariff(book, wish, rows), len(rows))
        corners = corner_rows(book, wish)
        for place, row in enumerate(rows):
            self.assertIn(row, corners)
            spot = spot_of(rows, place)
            self.assertTrue(is_spot(rows, place, spot))
            # No other price row tells the most at a spot.
            self.assertEqual(price_paper(book, wish, spot), row)
        for _ in range(tries):
            fill = some_fill(chance, book[0])
            self.assertEqual(most_of(book, wish, fill), priced_at(rows, fill))
        return rows

    def refused(self, book, wish, thing, word, at):
        with self.assertRaises(InvalidPaper) as caught:
            lets_tariff(book, wish, thing)
        self.assertEqual(fields(caught.exception), (word, at), thing)

    def test_document(self):
        self.assertEqual(tariff_of(TOOL, (0, 0, 1)), TOOLS)
        self.assertEqual(tariff_of(FORK, WISH), tuple(sorted(FORKS)))
        self.assertEqual(tariff_of(FORK, WISH)[2], (HALF, HALF, HALF, ONE))
        self.refused(TOOL, (0, 0, 1), TOOLS[1:], "lacks", -1)

    def test_edges(self):
        self.assertEqual(tariff_of(SPRING, (1,)), ())
        self.assertEqual(lets_tariff(SPRING, (1,), ()), 0)
        self.assertEqual(tariff_of(BARE, (2, 3)), ((TWO, (3, 1)),))
        self.assertEqual(tariff_of(SINK, (0, 3)), ((NOUGHT, (3, 1)),))
        self.assertEqual(tariff_of((1, (((0,), (0,)),)), (5,)), (((5, 1),),))
        # With any grain of it there is no end, and nothing else brings it.
        self.assertEqual(tariff_of(GROW, (0, 1)), ((ENDLESS, ONE),))
        # Both end wares; of one of them nothing is wished, and it is endless beside.
        both = (3, (((1, 0, 0), (0, 1, 0)), ((1, 0, 0), (1, 0, 1))))
        self.assertEqual(tariff_of(both, (0, 1, 0)), ((ONE, ONE, NOUGHT),))
        self.assertEqual(tariff_of(both, (0, 1, 1)), ((ENDLESS, ONE, ONE),))
        self.assertEqual(tariff_of((3, (TOOL[1][0],) * 2), (0, 0, 1)), TOOLS)

    def test_faults(self):
        wish = (0, 0, 1)
        for thing in ODD + (TOOLS[::-1], list(TOOLS), TOOLS[:1] * 2, MIDDLE, TOOLS + (None,), ((ONE, ONE, True),)):
            if thing != ():
                self.refused(TOOL, wish, thing, "shape", -1)
        self.refused(TOOL, wish, (), "lacks", -1)
        self.refused(TOOL, wish, ((NOUGHT, NOUGHT, ONE),) + TOOLS[1:], "row", 0)
        self.refused(TOOL, wish, TOOLS[:1] + ((ONE, NOUGHT, HALF),), "row", 1)
        self.refused(TOOL, wish, ((NOUGHT, ENDLESS, ONE), (NOUGHT, ENDLESS, TWO), (HALF, NOUGHT, ONE)), "row", 2)
        self.refused(TOOL, wish, TOOLS + ((TWO, NOUGHT, ONE),), "needless", 2)
        self.refused(TOOL, wish, TOOLS[:1] + ((NOUGHT, ENDLESS, TWO),), "needless", 1)
        self.refused(TOOL, wish, ((NOUGHT, ENDLESS, TWO), TOOLS[1]), "lacks", -1)
        self.refused(TOOL, wish, TOOLS[:1], "lacks", -1)
        self.refused(TOOL, wish, TOOLS[:1] + ((ONE, GRAIN, ONE),), "lacks", -1)
        self.refused(FORK, WISH, tuple(sorted(FORKS))[:2], "lacks", -1)
        self.refused(FORK, WISH, FORKS[:2] + ((ONE,) * 4, (TWO, NOUGHT, ONE, ONE)), "needless", 2)
        self.refused(SPRING, (1,), ((ENDLESS,),), "row", 0)
        self.refused(GROW, (0, 1), ((ENDLESS, ENDLESS),), "lacks", -1)

    def test_all(self):
        chance = Random(55)
        empty = many = 0
        for book in some_books(300, 55, wares=5, deeds=5):
            wish = some_wish(chance, book)
            if wish:
                rows = self.good(book, wish, chance)
                empty += not rows
                many = max(many, len(rows))
                self.assertEqual(rows == (), most_of(book, wish, (NOUGHT,) * book[0]) == ENDLESS)
                for row in rows:
                    self.assertTrue(all(row[ware] == (wish[ware], 1) for ware in range(book[0])
                                        if not any(take[ware] for take, give in book[1])))
        self.assertGreater(empty, 10)
        self.assertGreater(many, 3)

    def test_limits(self):
        chance = Random(56)
        longest = 0
        for seed in range(24):
            longest = max(longest, len(self.good(limit_book(seed), LIMIT_WISH, chance, 8)))
        self.assertGreater(longest, 8)

    def test_twice(self):
        book = limit_book(1)
        self.assertEqual(tariff_of(book, LIMIT_WISH), tariff_of(book, LIMIT_WISH))
        self.assertEqual(book, limit_book(1))


class PartingsTest(unittest.TestCase):
    def test_document(self):
        self.assertIsNone(tariffs_apart(MIDDLE, trimmed(MIDDLE)))
        self.assertEqual(tariffs_apart((), ((),)), ())

    def test_edges(self):
        self.assertIsNone(tariffs_apart((), ()))
        self.assertIsNone(tariffs_apart(((),), ((),)))
        for rows in (((ENDLESS,),), ((ONE, NOUGHT),), MIDDLE, TOOLS):
            for one, other in ((rows, ()), ((), rows)):
                fill = tariffs_apart(one, other)
                self.assertEqual(len(fill), len(rows[0]))
                self.assertNotEqual(least_of(rows, fill), ENDLESS)
        # Only the one with more of the second thing tells them apart.
        fill = tariffs_apart(((ONE, NOUGHT), (ONE, ENDLESS)), ((ONE, ENDLESS),))
        self.assertEqual(fill[1][0] > 0, True)

    def test_all(self):
        chance = Random(57)
        counts = [0, 0]
        for _ in range(300):
            many = chance.randint(0, 3)
            rows, other = some_tariff(chance, many), some_tariff(chance, many)
            if chance.random() < 0.4:
                other = tuple(sorted({*rows, *trimmed(tuple(sorted({*rows, *other})))}))
            fill = tariffs_apart(rows, other)
            counts[fill is None] += 1
            self.assertEqual(fill is None, trimmed(rows) == trimmed(other))
            if fill is not None:
                self.assertEqual(len(fill), many)
                self.assertNotEqual(priced_at(rows, fill), priced_at(other, fill))
        self.assertGreater(min(counts), 50)

    def test_books(self):
        chance = Random(58)
        counts = [0, 0]
        for book in some_books(200, 58, wares=3, deeds=4):
            wish = some_wish(chance, book)
            if not wish or not book[1]:
                continue
            deed = chance.randrange(len(book[1]))
            other = (book[0], book[1][:deed] + book[1][deed + 1:])
            fill = books_apart(book, other, wish)
            counts[fill is None] += 1
            if fill is None:
                self.assertEqual(tariff_of(book, wish), tariff_of(other, wish))
            else:
                self.assertNotEqual(most_of(book, wish, fill), most_of(other, wish, fill))
        self.assertGreater(min(counts), 20)

    def test_books_at_the_limits(self):
        for seed in range(6):
            book, other = limit_book(seed), limit_book(seed + 1)
            fill = books_apart(book, other, LIMIT_WISH)
            if fill is None:
                self.assertEqual(tariff_of(book, LIMIT_WISH), tariff_of(other, LIMIT_WISH))
            else:
                self.assertNotEqual(most_of(book, LIMIT_WISH, fill), most_of(other, LIMIT_WISH, fill))
            self.assertIsNone(books_apart(book, (7, book[1][::-1]), LIMIT_WISH))

    def test_wrong(self):
        for book, other, wish, word in (
                (FORK, TOOL, WISH, "other"), (FORK, None, None, "other"), (FORK, [*FORK], WISH, "other"),
                (FORK, FORK, (0, 0, 0, 0), "wish"), (FORK, (4, (((0, 0, 0, 1), (1, 0, 0, 0)),)), WISH, "wish"),
                ((4, (((0, 0, 0, 1), (1, 0, 0, 0)),)), FORK, WISH, "wish")):
            with self.assertRaises(NotUsable) as caught:
                books_apart(book, other, wish)
            self.assertEqual(fields(caught.exception), (word, -1))


if __name__ == "__main__":
    unittest.main()
