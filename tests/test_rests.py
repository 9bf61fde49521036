"""Points 30 to 32: straight fluxes, rests, Shelf."""

import unittest
from random import Random

from stillhad.errors import NotUsable, Stuck
from stillhad.rests import at_rest, ranks_of, rest_order, rest_run
from stillhad.runclasses import Shelf
from stillhad.runkinds import flux_of, is_run
from stillhad.running import end_of
from stillhad.stepping import can_do, fill_by, most_times
from stillhad.straights import is_straight, straight_run
from tests.helpers import (
    BARE, ENDLESS, FILL, FORK, GROW, HALF, NOUGHT, ONE, SINK, SPRING, TOOL, TWO, can_be_done, fields, some_books,
    some_fill, some_run, supported)


class StraightsTest(unittest.TestCase):
    def test_document(self):
        self.assertIs(is_straight(TOOL, (ONE, ONE, NOUGHT), (HALF,)), True)
        self.assertIs(is_straight(TOOL, (ONE, ONE, NOUGHT), (ONE,)), False)

    def test_edges(self):
        for book, fill in ((FORK, FILL), (BARE, (NOUGHT, NOUGHT)), (SPRING, (NOUGHT,))):
            self.assertIs(is_straight(book, fill, (NOUGHT,) * len(book[1])), True)
            self.assertEqual(straight_run(book, fill, (NOUGHT,) * len(book[1])), ())
        # What takes nothing is straight from nothing; what lends a tool needs it above nought.
        self.assertIs(is_straight(SPRING, (NOUGHT,), ((10 ** 12, 1),)), True)
        self.assertIs(is_straight(TOOL, (ONE, NOUGHT, NOUGHT), (HALF,)), False)
        self.assertIs(is_straight(TOOL, (ONE, (1, 10 ** 12), NOUGHT), (HALF,)), True)
        self.assertIs(is_straight(SINK, (ONE, NOUGHT), (ONE,)), False)
        self.assertIs(is_straight(SINK, (ONE, NOUGHT), (TWO,)), False)
        self.assertIs(is_straight(GROW, (HALF, NOUGHT), ((10 ** 12, 1),)), True)
        for fill, flux in (((ONE, NOUGHT, NOUGHT), (HALF,)), ((ONE, ONE, NOUGHT), (ONE,))):
            with self.assertRaises(NotUsable) as caught:
                straight_run(TOOL, fill, flux)
            self.assertEqual(fields(caught.exception), ("flux", -1))

    def test_many_turns(self):
        fill = (ONE, (1, 10 ** 12), NOUGHT)
        flux = ((10 ** 12 - 1, 10 ** 12),)
        run = straight_run(TOOL, fill, flux)
        self.assertEqual(flux_of(TOOL, run), flux)
        self.assertEqual(can_be_done(TOOL, fill, run), (True, fill_by(TOOL, fill, flux)))

    def test_all(self):
        chance = Random(17)
        straight = 0
        for book in some_books(900, 17):
            fill = some_fill(chance, book[0], 12)
            flux = some_fill(chance, len(book[1]), 2)
            end = fill_by(book, fill, flux)
            taken = [ware for deed in supported(flux) for ware in range(book[0]) if book[1][deed][0][ware]]
            wanted = end is not None and all(ware in supported(fill) and ware in supported(end) for ware in taken)
            self.assertIs(is_straight(book, fill, flux), wanted)
            if wanted:
                run = straight_run(book, fill, flux)
                self.assertIs(is_run(book, run), True)
                self.assertEqual(flux_of(book, run), flux)
                self.assertEqual(can_be_done(book, fill, run), (True, end))
                straight += run != ()
        self.assertGreater(straight, 60)


class RestsTest(unittest.TestCase):
    def test_document(self):
        self.assertEqual(ranks_of(FORK), (2, 1, 1, 0))
        self.assertEqual(rest_run(FORK, (TWO, NOUGHT, ONE, NOUGHT)), ((1, ((0, (2, 1)),)), (1, ((2, (1, 1)),))))

    def test_ranks(self):
        self.assertEqual(ranks_of(BARE), (0, 0))
        self.assertEqual(ranks_of(SINK), (0, 0))
        for book in (TOOL, GROW, SPRING, (1, (((0,), (0,)),)), (2, (((1, 0), (0, 1)), ((0, 1), (1, 0)))),
                     (2, (((1, 0), (0, 1)), ((0, 0), (1, 0))))):
            self.assertIsNone(ranks_of(book))
            for call, given in ((rest_order, (book,)), (rest_run, (book, None)), (rest_run, (book, (ONE, ONE)))):
                with self.assertRaises(NotUsable) as caught:
                    call(*given)
                self.assertEqual(fields(caught.exception), ("book", -1))
        line = (8, tuple((tuple(int(k == ware) for k in range(8)), tuple(int(k == ware + 1) for k in range(8)))
                         for ware in range(7)))
        self.assertEqual(ranks_of(line), (7, 6, 5, 4, 3, 2, 1, 0))

    def test_least(self):
        ranked = 0
        for book in some_books(500, 18, deeds=4):
            ranks = ranks_of(book)
            if ranks is None:
                self.assertTrue(self.has_circle(book))
                continue
            ranked += 1
            for take, give in book[1]:
                self.assertTrue(any(take))
                for low in supported([(number, 1) for number in give]):
                    for high in supported([(number, 1) for number in take]):
                        self.assertLess(ranks[low], ranks[high])
            # Each rank above 0 is called for by a ware just one lower.
            for ware, rank in enumerate(ranks):
                self.assertTrue(rank == 0 or any(
                    take[ware] and give[low] and ranks[low] == rank - 1
                    for take, give in book[1] for low in range(book[0])))
        self.assertGreater(ranked, 100)

    def has_circle(self, book):
        size, deeds = book
        if not all(any(take) for take, give in deeds):
            return True
        leads = {ware: {low for take, give in deeds if take[ware] for low in range(size) if give[low]}
                 for ware in range(size)}
        while True:
            ends = [ware for ware in leads if not leads[ware] & set(leads)]
            if not ends:
                return bool(leads)
            for ware in ends:
                del leads[ware]

    def test_order(self):
        self.assertEqual(rest_order(FORK), (0, 1, 2))
        self.assertEqual(rest_order(BARE), ())
        # The least rank of what is taken counts, and those alike stand by place.
        book = (4, (((0, 1, 0, 0), (0, 0, 1, 0)), ((1, 0, 1, 0), (0, 0, 0, 1)), ((1, 0, 0, 0), (0, 1, 0, 0)),
                    ((0, 2, 0, 0), (0, 0, 1, 0))))
        self.assertEqual(ranks_of(book), (3, 2, 1, 0))
        self.assertEqual(rest_order(book), (2, 0, 3, 1))

    def test_rest(self):
        self.assertIs(at_rest(FORK, (NOUGHT, ONE, NOUGHT, ONE)), True)
        self.assertIs(at_rest(FORK, FILL), False)
        self.assertIs(at_rest(SPRING, (NOUGHT,)), False)
        self.assertIs(at_rest(BARE, (ONE, ONE)), True)
        self.assertEqual(rest_run(FORK, (NOUGHT,) * 4), ())
        self.assertEqual(rest_run(SINK, (HALF, NOUGHT)), ((1, ((0, HALF),)),))
        chance = Random(19)
        for book in some_books(400, 19, deeds=4):
            fill = some_fill(chance, book[0])
            self.assertIs(at_rest(book, fill), not any(can_do(book, fill, deed) for deed in range(len(book[1]))))
            if ranks_of(book) is None:
                continue
            run = rest_run(book, fill)
            self.assertIs(at_rest(book, end_of(book, fill, run)), True)
            now = fill
            done = []
            for deed in rest_order(book):
                if can_do(book, now, deed):
                    done.append((1, ((deed, most_times(book, now, deed)),)))
                    now = end_of(book, now, (done[-1],))
            self.assertEqual(run, tuple(done))


class ShelfTest(unittest.TestCase):
    def test_steps(self):
        shelf = Shelf(FORK, FILL)
        self.assertEqual((shelf.can(0), shelf.can(2), shelf.most(0), shelf.most(2)), (True, False, TWO, NOUGHT))
        self.assertEqual(Shelf(SPRING, (NOUGHT,)).most(0), ENDLESS)
        self.assertIsNone(shelf.do(0, HALF))
        self.assertEqual(shelf.stands(), ((3, 2), HALF, NOUGHT, NOUGHT))
        self.assertIsNone(shelf.go(((3, ((1, HALF),)), (1, ((2, HALF),)))))
        self.assertEqual(shelf.stands(), (NOUGHT, NOUGHT, ONE, HALF))
        self.assertEqual(shelf.did(), (HALF, (3, 2), HALF))
        self.assertIs(shelf.rests(), True)
        self.assertEqual(shelf.told(), (FORK, (NOUGHT, NOUGHT, ONE, HALF)))
        shelf.go(())
        self.assertEqual(shelf.did(), (HALF, (3, 2), HALF))

    def test_stuck(self):
        shelf = Shelf(FORK, FILL)
        shelf.do(0, ONE)
        told = (shelf.told(), shelf.did())
        for call, given, place in ((shelf.do, (0, TWO), (0, 0, 0)), (shelf.do, (2, HALF), (0, 0, 0)),
                                   (shelf.go, (((1, ((1, HALF),)), (10 ** 12, ((1, HALF), (2, HALF)))),), (1, 1, 0))):
            with self.assertRaises(Stuck) as caught:
                call(*given)
            self.assertEqual(fields(caught.exception), place)
            self.assertEqual((shelf.told(), shelf.did()), told)
        for call, given in ((shelf.do, (3, ONE)), (shelf.do, (0, NOUGHT)), (shelf.go, (((1, ()),),))):
            with self.assertRaises(NotUsable):
                call(*given)
            self.assertEqual((shelf.told(), shelf.did()), told)

    def test_same(self):
        shelf, other = Shelf(FORK, FILL), Shelf(FORK, FILL)
        self.assertIs(shelf == other, True)
        shelf.do(0, ONE)
        self.assertIs(shelf == other, False)
        other.go(((2, ((0, HALF),)),))
        self.assertIs(shelf == other, True)
        # What was done is not compared, just the book and the fill now.
        self.assertIs(shelf == Shelf(FORK, (ONE, ONE, NOUGHT, NOUGHT)), True)
        self.assertIs(Shelf(BARE, (ONE, ONE)) == Shelf(SINK, (ONE, ONE)), False)
        for thing in (None, shelf.told(), 1, "", FORK):
            self.assertIs(shelf == thing, False)
            self.assertIs(shelf != thing, True)

    def test_two_shelves(self):
        chance = Random(20)
        for book in some_books(200, 20):
            fill = some_fill(chance, book[0], 12)
            run = some_run(chance, book, bottom=20)
            shelf = Shelf(book, fill)
            try:
                shelf.go(run)
            except Stuck:
                self.assertEqual((shelf.stands(), shelf.did()), (fill, (NOUGHT,) * len(book[1])))
                continue
            self.assertEqual(shelf.stands(), fill_by(book, fill, shelf.did()))
            self.assertEqual(shelf.did(), flux_of(book, run))


if __name__ == "__main__":
    unittest.main()
