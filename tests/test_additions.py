"""Points 59, 60 and their consequences: deeds added, books put together, heard deeds, one taker."""

import unittest
from random import Random

from stillhad.additions import added, keeps_tariff, lifts, put_together
from stillhad.bookchanges import with_all, with_deed
from stillhad.errors import NotUsable
from stillhad.mosts import most_of
from stillhad.partings import books_apart
from stillhad.quotients import less, plus
from stillhad.rights import is_right
from stillhad.takers import end_mosts, had_together, heard_deeds, one_taker
from stillhad.tariffs import tariff_of
from stillhad.wishes import unit_wish
from tests.helpers import (
    BARE, ENDLESS, FORK, GROW, HALF, LIMIT_WISH, NOUGHT, ODD, ONE, SINK, SPRING, TOOL, TWO, WISH, ends_of, fields,
    limit_book, some_books, some_fill, some_wish, tells)

HALVES = (2, (((1, 0), (0, 2)), ((1, 0), (0, 1))))
SPLIT = (3, (((1, 0, 0), (0, 1, 0)), ((1, 0, 0), (0, 0, 1))))
LOOP = (3, (((1, 0, 0), (0, 1, 0)), ((0, 1, 0), (1, 0, 0)), ((0, 1, 0), (0, 0, 1))))


def some_deed(chance, wish):
    """A take without wished wares, and a give."""
    return (tuple(0 if part else chance.choice((0, 0, 1, 2)) for part in wish),
            tuple(chance.choice((0, 0, 0, 1)) for _ in wish))


class AdditionsTest(unittest.TestCase):
    def refused(self, told, call, *given):
        with self.assertRaises(NotUsable) as caught:
            call(*given)
        self.assertEqual(fields(caught.exception), told, given)

    def test_document(self):
        self.assertIs(lifts(FORK, WISH, (0, 1, 0, 0), (1, 0, 0, 0)), True)
        self.assertIs(keeps_tariff(TOOL, (0, 0, 1), (0, 2, 0), (0, 1, 0)), True)
        self.refused(("other", -1), put_together, HALVES, (0, 1), HALVES)

    def test_edges(self):
        nothing = (0, 0, 0, 0)
        self.assertIs(lifts(FORK, WISH, nothing, nothing), False)
        self.assertIs(lifts(FORK, WISH, nothing, WISH), True)
        self.assertIs(lifts(FORK, WISH, (1, 0, 0, 0), nothing), False)
        self.assertIs(keeps_tariff(FORK, WISH, (1, 0, 0, 0), nothing), False)
        self.assertIs(keeps_tariff(FORK, WISH, nothing, nothing), True)
        # The tariff of SPRING is empty: each deed keeps it, none lifts anything.
        self.assertIs(lifts(SPRING, (1,), (0,), (5,)), False)
        self.assertIs(keeps_tariff(SPRING, (1,), (0,), (5,)), True)
        self.assertEqual(added(SPRING, (1,), (0,), (5,)), (1, SPRING[1] + (((0,), (5,)),)))
        self.assertEqual(added(FORK, WISH, (0, 1, 1, 0), WISH), (4, FORK[1] + FORK[1][2:]))
        # An end ware that is not wished may be taken.
        self.assertEqual(added(BARE, (0, 1), (3, 0), (3, 0)), (2, (((3, 0), (3, 0)),)))
        self.assertIs(lifts(BARE, (0, 1), (1, 0), (0, 1)), True)

    def test_wished_ware_taken(self):
        for call in (lifts, keeps_tariff, added):
            self.refused(("take", -1), call, FORK, WISH, WISH, WISH)
            self.refused(("take", -1), call, FORK, WISH, (1, 0, 0, 2), None)
            self.refused(("take", -1), call, SPRING, (1,), (1,), (1,))
            self.refused(("wish", -1), call, FORK, (0, 0, 0, 0), WISH, None)
        self.refused(("give", -1), added, FORK, WISH, (1, 0, 0, 0), (0, 1, 0, 0))
        self.refused(("give", -1), added, TOOL, (0, 0, 1), (1, 0, 0), (0, 0, 1))
        self.refused(("give", -1), added, FORK, WISH, (0, 1, 0, 0), (1, 0, 0, 0))

    def test_all(self):
        chance = Random(81)
        lifted = kept = 0
        for book in some_books(300, 81, wares=4, deeds=4):
            wish = some_wish(chance, book)
            if not wish:
                continue
            take, give = some_deed(chance, wish)
            more = with_deed(book, take, give)
            rows = tariff_of(book, wish)
            fill = books_apart(book, more, wish)
            self.assertIs(lifts(book, wish, take, give), fill is not None)
            if fill is not None:
                self.assertTrue(less(most_of(book, wish, fill), most_of(more, wish, fill)))
                lifted += 1
            keeps = all(tells(row, take) == tells(row, give) for row in rows)
            self.assertIs(keeps_tariff(book, wish, take, give), keeps)
            if keeps:
                self.assertEqual(added(book, wish, take, give), more)
                self.assertEqual(tariff_of(more, wish), rows)
                self.assertIs(is_right(more, wish), is_right(book, wish))
                kept += 1
            else:
                self.refused(("give", -1), added, book, wish, take, give)
        self.assertGreater(min(lifted, kept), 40)

    def test_put_together(self):
        plain = (2, (((1, 0), (0, 2)),))
        double = (2, (((2, 0), (0, 4)), ((0, 0), (0, 0))))
        both = put_together(plain, (0, 1), double)
        self.assertEqual(both, with_all(plain, double))
        self.assertIs(is_right(both, (0, 1)), True)
        self.assertEqual(tariff_of(both, (0, 1)), tariff_of(plain, (0, 1)))
        self.assertEqual(put_together(BARE, (1, 0), BARE), BARE)
        self.assertEqual(put_together(SPRING, (1,), SPRING), (1, SPRING[1] * 2))

    def test_not_together(self):
        plain = (2, (((1, 0), (0, 2)),))
        for book, other in ((plain, HALVES), (HALVES, plain), (plain, BARE), (plain, (2, (((1, 0), (0, 1)),))),
                            (plain, (3, ())), (plain, (2, (((0, 1), (1, 0)),))), (plain, None), (plain, [*plain]),
                            (plain, (2, (((1, 0), (0, True)),)))):
            self.refused(("other", -1), put_together, book, (0, 1), other)
        self.refused(("wish", -1), put_together, plain, (1, 1), None)
        for other in ODD:
            self.refused(("other", -1), put_together, plain, (0, 1), other)

    def test_limits(self):
        chance = Random(82)
        for seed in range(8):
            book = limit_book(seed)
            take, give = some_deed(chance, LIMIT_WISH)
            rows = tariff_of(book, LIMIT_WISH)
            self.assertIs(keeps_tariff(book, LIMIT_WISH, take, give),
                          all(tells(row, take) == tells(row, give) for row in rows))
            fill = books_apart(book, with_deed(book, take, give), LIMIT_WISH)
            self.assertIs(lifts(book, LIMIT_WISH, take, give), fill is not None)


class TakersTest(unittest.TestCase):
    def test_document(self):
        self.assertEqual(heard_deeds(SPLIT, (0, 0, 1)), (1,))
        self.assertEqual((one_taker(SPLIT, (0, 0, 1)), one_taker(TOOL, (0, 0, 1))), (False, True))
        self.assertEqual(end_mosts(SPLIT, (HALF, NOUGHT, ONE)), (HALF, (3, 2)))
        self.assertIs(had_together(SPLIT, (HALF, NOUGHT, ONE)), False)

    def test_heard(self):
        self.assertEqual(heard_deeds(FORK, WISH), (0, 1, 2))
        self.assertEqual(heard_deeds(SPLIT, (0, 1, 1)), (0, 1))
        self.assertEqual(heard_deeds(BARE, (1, 0)), ())
        self.assertEqual(heard_deeds(SINK, (0, 1)), ())
        self.assertEqual(heard_deeds(SPRING, (1,)), (0,))
        # What a heard deed takes is heard, too, round and round.
        self.assertEqual(heard_deeds(LOOP, (0, 0, 1)), (0, 1, 2))
        chain = (5, tuple(((0,) * k + (1,) + (0,) * (4 - k), (0,) * (k + 1) + (1,) + (0,) * (3 - k)) for k in (2, 0, 3, 1)))
        self.assertEqual(heard_deeds(chain, (0, 0, 0, 0, 1)), (0, 1, 2, 3))
        # An end ware without a wish is not asked for.
        self.assertEqual(heard_deeds((3, (((1, 0, 0), (0, 1, 0)), ((0, 0, 0), (0, 0, 1)))), (0, 1, 0)), (0,))

    def test_one_taker(self):
        self.assertIs(one_taker(BARE, (1, 1)), True)
        self.assertIs(one_taker(GROW, (0, 1)), True)
        self.assertIs(one_taker(FORK, WISH), False)
        # The other taker counts, heard or not; a deed told twice takes at two places.
        self.assertIs(one_taker((3, (((1, 0, 0), (0, 1, 0)), ((1, 0, 0), (0, 0, 0)))), (0, 1, 0)), False)
        self.assertIs(one_taker((2, (((1, 0), (0, 1)),) * 2), (0, 1)), False)
        # What no heard deed takes may be taken by many.
        self.assertIs(one_taker((3, (((1, 0, 0), (0, 0, 1)), ((0, 1, 0), (0, 0, 0)), ((0, 1, 0), (1, 0, 0)))),
                                (0, 0, 1)), False)
        self.assertIs(one_taker((3, (((1, 0, 0), (0, 0, 1)), ((0, 1, 0), (0, 0, 0)), ((0, 1, 0), (0, 1, 0)))),
                                (0, 0, 1)), True)

    def test_ends(self):
        ring = (1, (((1,), (1,)),))
        self.assertEqual(end_mosts(ring, (TWO,)), ())
        for call in (end_mosts, had_together):
            for fill in (None, (), (ENDLESS,), [TWO], (TWO, TWO), ((2, 2),)):
                with self.assertRaises(NotUsable) as caught:
                    call(ring, fill)
                self.assertEqual(fields(caught.exception), ("fill", -1))
        self.assertIs(had_together(ring, (TWO,)), True)
        self.assertEqual(end_mosts(BARE, (TWO, HALF)), (TWO, HALF))
        self.assertIs(had_together(BARE, (TWO, HALF)), True)
        self.assertEqual(end_mosts(SPRING, (NOUGHT,)), (ENDLESS,))
        self.assertIs(had_together(SPRING, (NOUGHT,)), True)
        # One of both is endless, so the sum is; what the other one lacks does not show.
        self.assertIs(had_together((3, SPLIT[1] + (((0, 0, 0), (0, 1, 0)),)), (ONE, NOUGHT, NOUGHT)), True)
        self.assertIs(had_together(SPLIT, (NOUGHT, ONE, ONE)), True)

    def test_all(self):
        chance = Random(83)
        counts = [0, 0]
        for book in some_books(600, 83, wares=5, deeds=5):
            fill = some_fill(chance, book[0])
            ends = ends_of(book)
            mosts = tuple(most_of(book, unit_wish(book, ware), fill) for ware in ends)
            self.assertEqual(end_mosts(book, fill), mosts)
            if ends:
                whole = NOUGHT
                for most in mosts:
                    whole = plus(whole, most)
                wish = tuple(int(ware in ends) for ware in range(book[0]))
                self.assertIs(had_together(book, fill), whole == most_of(book, wish, fill))
            wish = some_wish(chance, book)
            if not wish:
                continue
            heard = set()
            for _ in book[1]:
                asked = {ware for ware in range(book[0]) if wish[ware]} | {
                    ware for deed in heard for ware in range(book[0]) if book[1][deed][0][ware]}
                heard = {deed for deed, (_, give) in enumerate(book[1]) if any(give[ware] for ware in asked)}
            self.assertEqual(heard_deeds(book, wish), tuple(sorted(heard)))
            taken = [ware for take, _ in book[1] for ware in range(book[0]) if take[ware]]
            alone = all(taken.count(ware) == 1 for deed in heard for ware in range(book[0]) if book[1][deed][0][ware])
            self.assertIs(one_taker(book, wish), alone)
            counts[alone] += 1
            if alone:
                self.assertIs(is_right(book, wish), True)
        self.assertGreater(min(counts), 60)


if __name__ == "__main__":
    unittest.main()
