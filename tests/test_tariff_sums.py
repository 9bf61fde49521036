"""Points 50 to 52: tariffs made of tariffs, Tariff, and their texts."""

import unittest
from fractions import Fraction
from random import Random

from stillhad.bookchanges import beside, renamed, scaled, shuffled, with_deed
from stillhad.errors import InvalidRow, InvalidText, NotUsable
from stillhad.partings import tariffs_apart
from stillhad.putting import put_in
from stillhad.quotients import less, plus, product
from stillhad.samebooks import deed_follows
from stillhad.spots import lets_spot, spot_of
from stillhad.tariffclasses import Tariff
from stillhad.tariffkinds import is_tariff, least_at, least_of
from stillhad.tariffs import tariff_of
from stillhad.tariffsums import cut_to, tariff_beside, tariff_less, tariff_plus, tariff_times
from stillhad.tarifftexts import read_tariff, tariff_text
from stillhad.trimming import trimmed
from tests.helpers import (
    ENDLESS, FORK, HALF, NOUGHT, ODD, ONE, SPRING, TOOL, TWO, WISH, fields, pair, some_books, some_fill, some_tariff,
    some_wish)

MIDDLE = ((NOUGHT, TWO), (ONE, ONE), (TWO, NOUGHT))
ENDS = (MIDDLE[0], MIDDLE[2])
TOOLS = ((NOUGHT, ENDLESS, ONE), (ONE, NOUGHT, ONE))


class SumsTest(unittest.TestCase):
    def trim(self, rows, many):
        """The rows, which are a trimmed tariff over so many things."""
        self.assertIs(is_tariff(many, rows), True)
        self.assertEqual(trimmed(rows), rows)
        return rows

    def test_document(self):
        self.assertEqual(tariff_plus(MIDDLE, MIDDLE), ((NOUGHT, (4, 1)), ((4, 1), NOUGHT)))
        self.assertEqual(cut_to(TOOLS, (0, 1)), ((NOUGHT, ENDLESS), (ONE, NOUGHT)))
        parts = ((((1, 1), (1, 1)),), (((0, 1), (1, 1)),))
        self.assertEqual(put_in(2, ((NOUGHT, ENDLESS), (ONE, NOUGHT)), parts), ((NOUGHT, ENDLESS), (ONE, ONE)))

    def test_none(self):
        for rows in ((), MIDDLE, TOOLS, ((),)):
            self.assertEqual(tariff_plus(rows, ()), ())
            self.assertEqual(tariff_plus((), rows), ())
            self.assertEqual(tariff_less(rows, ()), trimmed(rows))
            self.assertEqual(tariff_less((), rows), trimmed(rows))
            self.assertEqual(tariff_beside(rows, ()), ())
            self.assertEqual(tariff_beside((), rows), ())
        self.assertEqual(tariff_times((), TWO), ())
        self.assertEqual(cut_to((), (3, 10 ** 40)), ())
        self.assertEqual(cut_to((), ()), ())

    def test_edges(self):
        self.assertEqual(tariff_beside(((),), MIDDLE), ENDS)
        self.assertEqual(tariff_beside(MIDDLE, ((),)), ENDS)
        self.assertEqual(tariff_plus(((),), ((),)), ((),))
        self.assertEqual(tariff_times(((),), HALF), ((),))
        self.assertEqual(tariff_times(MIDDLE, HALF), ((NOUGHT, ONE), (ONE, NOUGHT)))
        self.assertEqual(tariff_times(((ENDLESS, (2, 3)),), (3, 2)), ((ENDLESS, ONE),))
        self.assertEqual(cut_to(MIDDLE, ()), ((),))
        self.assertEqual(cut_to(((ENDLESS, ONE),), (0,)), ((ENDLESS,),))
        self.assertEqual(cut_to(((ENDLESS, ONE), (ONE, TWO)), (0,)), ((ONE,),))
        self.assertEqual(cut_to(TOOLS, (1, 2)), ((NOUGHT, ONE),))
        # Put one ahead of the other, the sums stand in another sequence than their parts.
        self.assertEqual(tariff_plus(((NOUGHT, ENDLESS), (ONE, NOUGHT)), ((ONE, NOUGHT),)),
                         ((ONE, ENDLESS), (TWO, NOUGHT)))

    def test_all(self):
        chance = Random(61)
        for _ in range(200):
            many, more = chance.randint(0, 3), chance.randint(0, 2)
            rows, other = some_tariff(chance, many), some_tariff(chance, many)
            apart = some_tariff(chance, more)
            factor = pair(Fraction(chance.randint(1, 5), chance.randint(1, 5)))
            lot = tuple(thing for thing in range(many) if chance.random() < 0.6)
            total = self.trim(tariff_plus(rows, other), many)
            lower = self.trim(tariff_less(rows, other), many)
            times = self.trim(tariff_times(rows, factor), many)
            both = self.trim(tariff_beside(rows, apart), many + more)
            cut = self.trim(cut_to(rows, lot), len(lot))
            for _ in range(5):
                fill, its = some_fill(chance, many), some_fill(chance, more)
                one, two = least_of(rows, fill), least_of(other, fill)
                self.assertEqual(least_of(total, fill), plus(one, two))
                self.assertEqual(least_of(lower, fill), one if less(one, two) else two)
                self.assertEqual(least_of(times, fill), product(one, factor))
                self.assertEqual(least_of(both, fill + its), plus(one, least_of(apart, its)))
                part = tuple(fill[thing] for thing in lot)
                whole = tuple(fill[thing] if thing in lot else NOUGHT for thing in range(many))
                self.assertEqual(least_of(cut, part), least_of(rows, whole))

    def test_largest(self):
        chance = Random(62)
        rows = tuple(sorted({tuple((chance.randint(1, 10 ** 6), 1) for _ in range(6)) for _ in range(8)}))
        other = tuple(sorted({tuple(pair(Fraction(chance.randint(1, 10 ** 6), 7)) for _ in range(6)) for _ in range(8)}))
        for made in (tariff_plus(rows, other), tariff_less(rows, other)):
            self.trim(made, 6)
        self.assertGreater(len(self.trim(tariff_beside(rows, other), 12)), 16)


class PuttingTest(unittest.TestCase):
    def good(self, many, rows, tariffs, chance):
        made = put_in(many, rows, tariffs)
        self.assertIs(is_tariff(many, made), True)
        self.assertEqual(trimmed(made), made)
        for _ in range(5):
            fill = some_fill(chance, many)
            self.assertEqual(least_of(made, fill), least_at(rows, tuple(least_of(one, fill) for one in tariffs)))
        return made

    def test_edges(self):
        chance = Random(63)
        self.assertEqual(put_in(0, (), ()), ())
        self.assertEqual(put_in(0, ((),), ()), ((),))
        self.assertEqual(put_in(0, ((ONE,),), (((),),)), ((),))
        self.assertEqual(put_in(0, ((ONE,),), ((),)), ())
        self.assertEqual(put_in(0, ((ENDLESS,),), (((),),)), ((),))
        self.assertEqual(put_in(2, ((),), ()), ((NOUGHT, NOUGHT),))
        self.assertEqual(put_in(2, (), (MIDDLE, (), MIDDLE)), ())
        # An empty tariff is endless, but a price of nought makes nothing of it.
        self.assertEqual(put_in(2, ((NOUGHT, ONE),), ((), MIDDLE)), ENDS)
        self.assertEqual(put_in(2, ((ONE, ONE),), ((), MIDDLE)), ())
        self.assertEqual(put_in(2, ((NOUGHT, NOUGHT),), ((), ())), ((NOUGHT, NOUGHT),))
        # Endless times nought is nought.
        self.assertEqual(put_in(2, ((ENDLESS,),), (((NOUGHT, ONE),),)), ((NOUGHT, ENDLESS),))
        for many, rows, tariffs in ((0, ((ONE,),), (((),),)), (2, TOOLS, (MIDDLE, MIDDLE, ())),
                                    (2, TOOLS, (MIDDLE, (), MIDDLE)), (1, ((ENDLESS, NOUGHT),), ((), ((ENDLESS,),)))):
            self.good(many, rows, tariffs, chance)

    def test_all(self):
        chance = Random(64)
        for _ in range(200):
            many, doors = chance.randint(0, 3), chance.randint(0, 3)
            rows = some_tariff(chance, doors, rows=3)
            self.good(many, rows, tuple(some_tariff(chance, many, rows=3) for _ in range(doors)), chance)

    def test_wrong(self):
        good = (2, TOOLS, (MIDDLE, (), MIDDLE))
        for bad in (-1, True, None, "2", (2,)):
            self.refused("many", bad, None, None)
        for bad in (None, TOOLS[::-1], [*TOOLS], TOOLS[:1] * 2, TOOLS + MIDDLE, (None,), ((ONE,), None), 0, "", (ONE,)):
            self.refused("rows", 2, bad, None)
        for bad in (None, [MIDDLE, (), MIDDLE], (MIDDLE, MIDDLE), (MIDDLE,) * 4, (MIDDLE, (), TOOLS), (MIDDLE, None, ()),
                    (MIDDLE, (), MIDDLE[::-1]), (), (MIDDLE, [], MIDDLE)):
            self.refused("tariffs", 2, TOOLS, bad)
        self.refused("tariffs", 2, (), (MIDDLE, TOOLS))
        self.refused("tariffs", 2, ((),), (MIDDLE,))
        self.assertEqual(put_in(*good), put_in(*good))

    def refused(self, word, many, rows, tariffs):
        with self.assertRaises(NotUsable) as caught:
            put_in(many, rows, tariffs)
        self.assertEqual(fields(caught.exception), (word, -1))


class TariffClassTest(unittest.TestCase):
    def test_rows(self):
        tariff = Tariff(2, MIDDLE[2], MIDDLE[1], MIDDLE[0], MIDDLE[1], MIDDLE[2])
        self.assertEqual(tariff.told(), (2, ENDS))
        self.assertEqual(len(tariff), 2)
        self.assertEqual(Tariff(0).told(), (0, ()))
        self.assertEqual(Tariff(0, (), ()).told(), (0, ((),)))
        self.assertEqual(len(Tariff(7)), 0)

    def test_methods(self):
        tariff, other = Tariff(2, *MIDDLE), Tariff(2, (HALF, HALF), (ENDLESS, NOUGHT))
        self.assertEqual(tariff.least((ONE, HALF)), ONE)
        self.assertEqual(Tariff(2).least((ONE, HALF)), ENDLESS)
        self.assertEqual(tariff.spot(1), spot_of(ENDS, 1))
        self.assertGreater(lets_spot(ENDS, 0, tariff.spot(0))[0], 0)
        rows = other.told()[1]
        self.assertEqual(tariff.plus(other).told(), (2, tariff_plus(ENDS, rows)))
        self.assertEqual(tariff.less(other).told(), (2, tariff_less(ENDS, rows)))
        self.assertEqual(tariff.less(Tariff(2)).told(), (2, ENDS))
        self.assertEqual(tariff.plus(Tariff(2)).told(), (2, ()))
        self.assertEqual(Tariff(3, *TOOLS).cut((0, 1)).told(), (2, ((NOUGHT, ENDLESS), (ONE, NOUGHT))))
        self.assertEqual(Tariff(3).cut((0, 2)).told(), (2, ()))
        self.assertEqual(tariff.cut(()).told(), (0, ((),)))
        self.assertEqual(tariff.apart(other), tariffs_apart(ENDS, rows))
        self.assertIsNone(tariff.apart(Tariff(2, *ENDS)))
        self.assertIsNone(Tariff(2).apart(Tariff(2)))
        self.assertEqual(len(tariff.apart(Tariff(2))), 2)
        self.assertEqual(len(Tariff(2).apart(tariff)), 2)
        for made in (tariff.plus(other), tariff.less(other), tariff.cut((1,))):
            self.assertIsInstance(made, Tariff)

    def test_same(self):
        tariff = Tariff(2, *MIDDLE)
        self.assertTrue(tariff == Tariff(2, *reversed(ENDS)))
        self.assertFalse(Tariff(0) == Tariff(1))
        for other in (Tariff(2), Tariff(2, MIDDLE[1]), ENDS, (2, ENDS), None, 2):
            self.assertFalse(tariff == other)

    def test_wrong(self):
        for bad in (-1, True, None, "1", (1,), [1]):
            self.refused(("many", -1), Tariff, bad, None)
        for bad in (None, [ONE, ONE], (ONE,), (ONE, ONE, ONE), (ONE, (2, 2)), (ONE, True), ()):
            self.refused(("rows", 1), Tariff, 2, MIDDLE[0], bad, None)
        tariff = Tariff(2, *MIDDLE)
        for bad in (None, (ONE,), (ONE, ENDLESS), [ONE, ONE], (ONE, ONE, ONE)):
            self.refused(("fill", -1), tariff.least, bad)
        self.refused(("fill", -1), Tariff(2).least, (ONE,))
        for bad in (2, -1, True, None, "0"):
            self.refused(("place", -1), tariff.spot, bad)
        self.refused(("place", -1), Tariff(2).spot, 0)
        for call in (tariff.plus, tariff.less, tariff.apart, Tariff(2).plus, Tariff(2).less, Tariff(2).apart):
            for bad in (None, ENDS, (2, ENDS), Tariff(3), Tariff(0), 0):
                self.refused(("other", -1), call, bad)
        for call in (tariff.cut, Tariff(2).cut):
            for bad in ((2,), (1, 0), [0], (0, 0), (True,), None, 0):
                self.refused(("lot", -1), call, bad)

    def refused(self, told, call, *given):
        with self.assertRaises(NotUsable) as caught:
            call(*given)
        self.assertEqual(fields(caught.exception), told, given)


class TextsTest(unittest.TestCase):
    def test_texts(self):
        for many, rows, text in ((0, (), ""), (5, (), ""), (0, ((),), "-"), (2, ENDS, "0 2\n2 0"),
                                 (3, TOOLS, "0 oo 1\n1 0 1"), (1, ((ENDLESS,), ((1, 3),)), "oo\n1/3")):
            self.assertEqual(tariff_text(rows), text)
            self.assertEqual(read_tariff(many, text), rows)

    def test_needless(self):
        self.assertEqual(tariff_text(MIDDLE), "0 2\n1 1\n2 0")
        self.assertEqual(read_tariff(2, "0 2\n1 1\n2 0"), MIDDLE)

    def refused(self, many, text, kind, *told):
        with self.assertRaises(kind) as caught:
            read_tariff(many, text)
        self.assertEqual(fields(caught.exception), told, text)

    def test_faults(self):
        self.refused(2, "0 oo\n1", InvalidRow, 1)
        self.refused(2, "0\n1 1", InvalidRow, 0)
        self.refused(1, "-", InvalidRow, 0)
        self.refused(0, "1", InvalidRow, 0)
        self.refused(0, "-\n-", InvalidRow, 1)
        self.refused(2, "0 2\n0 2", InvalidRow, 1)
        self.refused(2, "1 1\n0 2\n", InvalidRow, 1)
        # As Python sorts, the pair of one third comes behind that of one.
        self.assertEqual(read_tariff(1, "1\n1/3"), ((ONE,), ((1, 3),)))
        self.refused(1, "1/3\n1", InvalidRow, 1)
        self.assertEqual(read_tariff(1, "oo\n1"), ((ENDLESS,), (ONE,)))
        self.refused(1, "2\n10\n10", InvalidRow, 2)
        for text, k, field in (("0 2\n1 x", 1, 1), ("\n", 0, 0), ("0 2\n", 1, 0), ("0 2\n\n1 1", 1, 0), (" 0 2", 0, 0),
                               ("0 2 ", 0, 2), ("0  2", 0, 1), ("0 2\n2/4 1", 1, 0), ("- 1", 0, 1), ("0 2\n- 1", 1, 1),
                               ("00 2", 0, 0), ("0 2\n1 1 \n0", 1, 2), ("0 2\r\n1 1", 0, 1), (" ", 0, 0)):
            self.refused(2, text, InvalidText, k, field)
        # In a line the text comes first, but a line ahead of all lines behind it.
        self.refused(2, "0 2\n1 1 1 x", InvalidText, 1, 3)
        self.refused(2, "0\nx", InvalidRow, 0)
        self.refused(0, "x", InvalidText, 0, 0)

    def test_wrong(self):
        for bad in (-1, True, None, "1"):
            self.refused(bad, None, NotUsable, "many", -1)
        for bad in ODD + (b"1", ("1",)):
            if not isinstance(bad, str):
                self.refused(1, bad, NotUsable, "text", -1)

    def test_back(self):
        chance = Random(65)
        for _ in range(200):
            many = chance.randint(0, 4)
            rows = some_tariff(chance, many, top=12)
            self.assertEqual(read_tariff(many, tariff_text(rows)), rows)


class ConsequencesTest(unittest.TestCase):
    def test_tariffs_of_books(self):
        chance = Random(66)
        for book in some_books(120, 66, wares=4, deeds=4):
            wish = some_wish(chance, book)
            if not wish:
                continue
            rows = tariff_of(book, wish)
            self.assertEqual(tariff_of(book, tuple(3 * part for part in wish)), tariff_times(rows, (3, 1)))
            order = tuple(chance.sample(range(book[0]), book[0]))
            old = [order.index(ware) for ware in range(book[0])]
            self.assertEqual(tariff_of(renamed(book, order), tuple(wish[ware] for ware in old)),
                             tuple(sorted(tuple(row[ware] for ware in old) for row in rows)))
            if book[1]:
                deed = chance.randrange(len(book[1]))
                self.assertEqual(tariff_of(with_deed(book, *book[1][deed]), wish), rows)
                self.assertEqual(tariff_of(scaled(book, deed, 7), wish), rows)
                places = tuple(chance.sample(range(len(book[1])), len(book[1])))
                self.assertEqual(tariff_of(shuffled(book, places), wish), rows)
            take = tuple(0 if part else chance.randint(0, 2) for part in wish)
            give = tuple(chance.randint(0, 1) for _ in wish)
            if deed_follows(book, take, give):
                self.assertEqual(tariff_of(with_deed(book, take, give), wish), rows)

    def test_beside(self):
        chance = Random(67)
        for book in list(some_books(40, 67, wares=3, deeds=3)) + [SPRING, FORK]:
            wish = some_wish(chance, book)
            if not wish:
                continue
            for other, its in ((TOOL, (0, 0, 2)), ((1, ()), (3,)), (SPRING, (1,))):
                self.assertEqual(tariff_of(beside(book, other), wish + its),
                                 tariff_beside(tariff_of(book, wish), tariff_of(other, its)))
        self.assertEqual(tariff_beside(tariff_of(FORK, WISH), tariff_of(SPRING, (1,))), ())


if __name__ == "__main__":
    unittest.main()
