"""Points 53 to 58 and 61, 62: sandwiches, shares and their papers, right books, losing runs and rests, Share."""

import unittest
from random import Random

from stillhad.additions import keeps_tariff, lifts
from stillhad.bookchanges import beside, scaled, with_deed
from stillhad.errors import InvalidPaper, NotUsable, Stuck
from stillhad.losingruns import lets_losing, losing_run
from stillhad.losings import losing_deed, mosts_by
from stillhad.mosts import most_of
from stillhad.quotients import less, plus, product
from stillhad.rests import at_rest, ranks_of, rest_run
from stillhad.restshares import losing_rest, rests_alike
from stillhad.rights import harmless_deeds, is_right, right_each, unkept
from stillhad.runkinds import is_run
from stillhad.running import end_of
from stillhad.sandwiches import lets_sandwich, sandwich_of
from stillhad.sandwichplans import best_sandwich
from stillhad.shareclasses import Share
from stillhad.sharepapers import lets_share, share_paper
from stillhad.shares import all_hands, row_share, share_table, sure_share
from stillhad.stepping import after_step
from stillhad.takers import had_together
from stillhad.tariffs import tariff_of
from stillhad.tariffsums import tariff_times
from stillhad.traps import all_traps
from stillhad.wishes import unit_wish, worth_of
from tests.helpers import (
    BARE, ENDLESS, FILL, FORK, GROW, HALF, LIMIT_WISH, NOUGHT, ODD, ONE, SINK, SPRING, TOOL, TWO, WISH, at_most,
    can_be_done, ends_of, fields, fraction, fractions, limit_book, moved, pair, some_books, some_fill, some_run,
    some_wish, supported, tells)

HALVES = (2, (((1, 0), (0, 2)), ((1, 0), (0, 1))))
# An egg, ware 2, becomes the tool, ware 1, or else what is wished: the tool stays for ever, but not the egg.
EGG = (4, (((1, 1, 0, 0), (0, 1, 0, 1)), ((0, 0, 1, 0), (0, 1, 0, 0)), ((0, 0, 1, 0), (0, 0, 0, 1)),
           ((2, 0, 0, 0), (0, 0, 0, 1))))
NEARS = ((10 ** 6, 1), ONE, (1, 3), (1, 10 ** 6))
SMALL = (1, 10 ** 6)


def lossy_books(many, seed):
    """Books in which nearly each deed gives some of the end ware, so that shares lie between nought and 1."""
    chance = Random(seed)
    for _ in range(many):
        deeds = []
        for _ in range(chance.randint(1, 5)):
            take = [0] * 4
            give = [0] * 4
            for ware in chance.sample(range(3), chance.randint(1, 2)):
                take[ware] = chance.randint(1, 3)
            if chance.random() < 0.4:
                give[chance.randrange(3)] = 1
            give[3] = chance.randint(0, 3)
            deeds.append((tuple(take), tuple(give)))
        yield (4, tuple(deeds))


def some_hands(many, seed):
    """Books, wishes and hands, the same for the same seed."""
    chance = Random(seed)
    yield EGG, WISH, (0, 1, 2, 3)
    for book in list(some_books(many, seed, wares=5, deeds=5)) + list(lossy_books(many, seed)):
        wish = some_wish(chance, book)
        if wish:
            yield book, wish, tuple(deed for deed in range(len(book[1])) if chance.random() < 0.6)


def is_sandwich(book, rows, hands, place, thing):
    """Whether thing is a sandwich, by the words of the document."""
    weights, row = thing
    for deed in hands:
        take, give = book[1][deed]
        if not at_most(tells(row, take), tells(row, give)):
            return False
    for ware in range(book[0]):
        price = None if row[ware] == ENDLESS else fraction(row[ware])
        if not at_most(price, None if rows[place][ware] == ENDLESS else fraction(rows[place][ware])):
            return False
        if not at_most(tells([one[ware] for one in rows], fractions(weights)), price):
            return False
    return True


class SandwichTest(unittest.TestCase):
    def refused(self, thing, word, at, book=HALVES, wish=(0, 1), hands=(0, 1), place=0):
        with self.assertRaises(InvalidPaper) as caught:
            lets_sandwich(book, wish, hands, place, thing)
        self.assertEqual(fields(caught.exception), (word, at), thing)

    def test_document(self):
        self.assertEqual(tariff_of(HALVES, (0, 1)), ((TWO, ONE),))
        self.assertEqual(lets_sandwich(HALVES, (0, 1), (0, 1), 0, ((HALF,), (ONE, ONE))), HALF)
        self.refused(((ONE,), (TWO, ONE)), "falls", 1)
        self.refused(((ONE,), (ONE, ONE)), "below", 0)

    def test_faults(self):
        good = (ONE, ONE)
        for thing in ODD + (((HALF,), good, None), [(HALF,), good], ((HALF,),)):
            self.refused(thing, "shape", -1)
        for weights in (None, (), (HALF, HALF), [HALF], (ENDLESS,), ((2, 4),), (True,)):
            self.refused((weights, good), "weights", -1)
            self.refused((weights, None), "weights", -1)
        for row in (None, (ONE,), (ONE, ONE, ONE), [ONE, ONE], (ONE, (2, 2)), (ONE, True)):
            self.refused(((HALF,), row), "row", -1)
        self.refused(((HALF,), (TWO, ONE)), "falls", 1)
        self.refused(((HALF,), ((3, 1), ONE)), "falls", 0)
        self.refused(((HALF,), ((3, 1), ONE)), "falls", 1, hands=(1,))
        self.refused(((HALF,), ((3, 1), ONE)), "above", 0, hands=())
        self.refused(((HALF,), (NOUGHT, TWO)), "above", 1)
        self.refused(((HALF,), (NOUGHT, HALF)), "below", 0)
        self.refused(((ONE,), (TWO, HALF)), "below", 1, hands=())
        self.refused(((HALF,), (ENDLESS, ONE)), "falls", 0)
        self.refused(((HALF,), (ENDLESS, ENDLESS)), "above", 0)
        self.assertEqual(lets_sandwich(HALVES, (0, 1), (0, 1), 0, ((NOUGHT,), (NOUGHT, NOUGHT))), NOUGHT)
        self.assertEqual(lets_sandwich(HALVES, (0, 1), (), 0, ((ONE,), (TWO, ONE))), ONE)

    def test_endless(self):
        # The first row of TOOL is endless at the tool, so a sandwich for it may be, too.
        wish = (0, 0, 1)
        good = ((ONE, NOUGHT), (NOUGHT, ENDLESS, ONE))
        self.assertEqual(lets_sandwich(TOOL, wish, (0,), 0, good), ONE)
        self.refused(((ONE, NOUGHT), (NOUGHT, ONE, ONE)), "below", 1, TOOL, wish, (0,), 0)
        self.refused(((HALF, HALF), (NOUGHT, ENDLESS, ONE)), "below", 0, TOOL, wish, (0,), 0)
        self.refused(((ONE, NOUGHT), (NOUGHT, ENDLESS, ONE)), "above", 1, TOOL, wish, (0,), 1)
        self.refused(((NOUGHT, ONE), (ONE, NOUGHT, HALF)), "falls", 0, TOOL, wish, (0,), 1)
        self.refused(((NOUGHT, ONE), (ONE, NOUGHT, HALF)), "below", 2, TOOL, wish, (), 1)
        # A row that is endless at a price of nought adds nothing; at one above nought, it does.
        self.refused(((SMALL, ONE), (ONE, NOUGHT, ONE)), "below", 1, TOOL, wish, (0,), 1)

    def test_egg(self):
        # Neither the deed that gives the tool, nor the one that keeps it, asks anything of a row endless there.
        self.assertEqual(tariff_of(EGG, WISH), ((ONE, NOUGHT, ONE, ONE), (HALF, ENDLESS, ENDLESS, ONE)))
        self.assertEqual(share_table(EGG, WISH, (0, 1, 2, 3)), (NOUGHT, HALF))
        self.assertEqual(share_table(EGG, WISH, (0, 1)), (NOUGHT, ONE))
        self.assertEqual(share_table(EGG, WISH, (2,)), (ONE, HALF))

    def test_all(self):
        between = 0
        for book, wish, hands in some_hands(150, 71):
            rows = tariff_of(book, wish)
            table = share_table(book, wish, hands)
            self.assertEqual(len(table), len(rows))
            own = (book[0], tuple(book[1][deed] for deed in hands))
            for place, row in enumerate(rows):
                thing = sandwich_of(book, wish, hands, place)
                self.assertTrue(is_sandwich(book, rows, hands, place, thing))
                share = lets_sandwich(book, wish, hands, place, thing)
                self.assertEqual(share, row_share(book, wish, hands, place))
                self.assertEqual(share, table[place])
                between += share not in (NOUGHT, ONE)
                traps = [trap for trap in all_traps(own) if all(row[ware] == ENDLESS for ware in trap)]
                self.assertIn(tuple(ware for ware, price in enumerate(thing[1]) if price == ENDLESS), traps)
                self.greatest(book, rows, hands, place, max(traps, key=len))
                kept = all(tells(row, book[1][deed][0]) == tells(row, book[1][deed][1]) for deed in hands)
                self.assertEqual(share == ONE, kept)
                self.assertFalse(less(ONE, share))
        self.assertGreater(between, 30)

    def greatest(self, book, rows, hands, place, trap):
        """No sandwich has a greater sum: the hands bring a fill, where rows tell at least 1, down to where this one tells the sum."""
        thing, flux, end = best_sandwich(book, hands, rows, place)
        self.assertEqual(pair(sum(fractions(thing[0]))), pair(tells(rows[place], fractions(end))))
        begin = fractions(end)
        for deed, ((take, give), times) in enumerate(zip(book[1], flux)):
            if fraction(times):
                self.assertIn(deed, hands)
                self.assertFalse(any(take[ware] or give[ware] for ware in trap))
            begin = moved(begin, (give, take), fraction(times))
        self.assertGreaterEqual(min(begin), 0)
        for row in rows:
            if all(row[ware] != ENDLESS for ware in range(book[0]) if ware not in trap):
                self.assertGreaterEqual(tells(row, begin), 1)

    def test_hands(self):
        chance = Random(72)
        for book, wish, hands in some_hands(60, 72):
            fewer = tuple(deed for deed in hands if chance.random() < 0.5)
            for few, many in ((fewer, hands), (hands, all_hands(book)), ((), fewer)):
                for more, fewest in zip(share_table(book, wish, few), share_table(book, wish, many)):
                    self.assertFalse(less(more, fewest))
            self.assertEqual(sure_share(book, wish, ()), ONE)


class ShareTest(unittest.TestCase):
    def refused(self, thing, word, at, book=HALVES, wish=(0, 1), hands=(1,)):
        with self.assertRaises(InvalidPaper) as caught:
            lets_share(book, wish, hands, thing)
        self.assertEqual(fields(caught.exception), (word, at), thing)

    def test_document(self):
        self.assertEqual(share_table(FORK, WISH, all_hands(FORK)), (NOUGHT, NOUGHT, ONE))
        self.assertEqual(sure_share(FORK, WISH, (2,)), ONE)
        self.assertEqual(lets_share(HALVES, (0, 1), (1,), ((((1, 3),), (ONE, ONE)),)), (1, 3))
        self.assertEqual(sure_share(HALVES, (0, 1), (0, 1)), HALF)
        self.assertEqual(sure_share(HALVES, (0, 1), (0,)), ONE)
        self.assertEqual(sure_share(TOOL, (0, 0, 1), (0,)), ONE)

    def test_edges(self):
        self.assertEqual(all_hands(BARE), ())
        self.assertEqual(all_hands(FORK), (0, 1, 2))
        for hands in ((), (0,)):
            self.assertEqual(share_table(SPRING, (1,), hands), ())
            self.assertEqual(sure_share(SPRING, (1,), hands), ONE)
            self.assertEqual(share_paper(SPRING, (1,), hands), ())
            self.assertEqual(lets_share(SPRING, (1,), hands, ()), ONE)
            self.refused((None,), "shape", -1, SPRING, (1,), hands)
        self.assertEqual(sure_share(BARE, (1, 2), ()), ONE)
        self.assertEqual(sure_share(SINK, (0, 1), (0,)), ONE)
        self.assertEqual(sure_share(GROW, (0, 1), (0,)), ONE)
        # What the second deed takes is gone: all of the most is lost.
        self.assertEqual(sure_share((2, (((1, 0), (0, 1)), ((1, 0), (0, 0)))), (0, 1), (1,)), NOUGHT)
        self.assertEqual(sure_share((2, (((1, 0), (0, 3)), ((2, 0), (0, 1)))), (0, 1), (0, 1)), (1, 6))

    def test_faults(self):
        good = (((1, 3),), (ONE, ONE))
        for thing in ODD + ([good], (good, good), good):
            if thing not in ((0,), ((),)):
                self.refused(thing, "shape", -1)
        for bad in (None, 0, (), good[:1], (((1, 3),), (ONE,)), (((2, 3),), (ONE, ONE)), (((1, 3),), (TWO, ONE)),
                    (((1, 3),), (HALF, ONE)), (((1, 3),), (ONE, TWO)), ((HALF, HALF), (ONE, ONE))):
            self.refused((bad,), "sandwich", 0)
        paper = share_paper(FORK, WISH, (0, 1))
        self.assertEqual(lets_share(FORK, WISH, (0, 1), paper), NOUGHT)
        self.refused(paper[:1] + (None, None), "sandwich", 1, FORK, WISH, (0, 1))
        self.refused(paper[:2] + ((paper[2][0], (TWO,) * 4),), "sandwich", 2, FORK, WISH, (0, 1))
        self.refused(paper[:2], "shape", -1, FORK, WISH, (0, 1))

    def test_all(self):
        between = 0
        for book, wish, hands in some_hands(150, 73):
            table = share_table(book, wish, hands)
            share = sure_share(book, wish, hands)
            self.assertEqual(share, min([(fraction(one), one) for one in table], default=(1, ONE))[1])
            self.assertEqual(lets_share(book, wish, hands, share_paper(book, wish, hands)), share)
            between += share not in (NOUGHT, ONE)
            if hands:
                self.assertEqual(sure_share(scaled(book, hands[0], 3), wish, hands), share)
                copy = with_deed(book, *book[1][hands[0]])
                self.assertEqual(sure_share(copy, wish, hands), share)
                self.assertEqual(sure_share(copy, wish, hands + (len(book[1]),)), share)
            more = tuple(3 * part for part in wish)
            self.assertEqual(sorted(share_table(book, more, hands)), sorted(table))
            self.assertEqual(tariff_of(book, more), tariff_times(tariff_of(book, wish), (3, 1)))
        self.assertGreater(between, 10)

    def test_beside(self):
        for book, wish, hands in some_hands(20, 74):
            if len(supported([(int(any(take[ware] for take, _ in book[1])), 1) for ware in range(book[0])])) > 3:
                continue
            both = sure_share(beside(book, HALVES), wish + (0, 1), hands + (len(book[1]) + 1,))
            if tariff_of(book, wish):
                own = sure_share(book, wish, hands)
                self.assertEqual(both, own if less(own, HALF) else HALF)

    def test_limits(self):
        for seed in range(8):
            book = limit_book(seed)
            for hands in ((), (0, 3, 4), all_hands(book)):
                paper = share_paper(book, LIMIT_WISH, hands)
                share = lets_share(book, LIMIT_WISH, hands, paper)
                self.assertEqual(share, sure_share(book, LIMIT_WISH, hands))
                thing = losing_run(book, LIMIT_WISH, hands, SMALL)
                if thing is not None:
                    before, behind = lets_losing(book, LIMIT_WISH, hands, SMALL, thing)
                    self.assertFalse(less(behind, product(before, share)))


class RightTest(unittest.TestCase):
    def test_document(self):
        self.assertEqual(harmless_deeds(FORK, WISH), (2,))
        self.assertEqual(unkept(FORK, WISH), ((0, 0), (1, 1)))
        self.assertIs(is_right(TOOL, (0, 0, 1)), True)

    def test_edges(self):
        self.assertEqual((harmless_deeds(BARE, (1, 1)), unkept(BARE, (1, 1)), is_right(BARE, (1, 1))), ((), (), True))
        self.assertEqual((harmless_deeds(SPRING, (1,)), unkept(SPRING, (1,)), is_right(SPRING, (1,))), ((0,), (), True))
        self.assertIs(right_each((1, (((1,), (0,)),))), True)
        self.assertIs(right_each(BARE), True)
        self.assertIs(right_each(TOOL), True)
        self.assertIs(right_each(FORK), False)
        split = (3, (((1, 0, 0), (0, 1, 0)), ((1, 0, 0), (0, 0, 1))))
        self.assertIs(right_each(split), False)
        self.assertIs(is_right(split, (0, 1, 1)), True)
        self.assertIs(is_right(split, (0, 1, 2)), False)

    def test_all(self):
        chance = Random(75)
        counts = [0, 0]
        for book, wish, _ in some_hands(200, 75):
            rows = tariff_of(book, wish)
            plain = tuple((deed, place) for deed in range(len(book[1])) for place, row in enumerate(rows)
                          if tells(row, book[1][deed][0]) != tells(row, book[1][deed][1]))
            self.assertEqual(unkept(book, wish), plain)
            bad = {deed for deed, place in plain}
            self.assertEqual(harmless_deeds(book, wish), tuple(d for d in range(len(book[1])) if d not in bad))
            self.assertIs(is_right(book, wish), not plain)
            counts[not plain] += 1
            self.assertEqual(sure_share(book, wish, all_hands(book)) == ONE, not plain)
            each = all(is_right(book, unit_wish(book, ware)) for ware in ends_of(book))
            self.assertIs(right_each(book), each)
            if each:
                self.assertIs(is_right(book, wish), True)
                self.assertIs(had_together(book, some_fill(chance, book[0])), True)
            if not plain:
                # The most never changes, whatever is done.
                fill = some_fill(chance, book[0])
                run = some_run(chance, book)
                try:
                    end = end_of(book, fill, run)
                except Stuck:
                    continue
                self.assertEqual(most_of(book, wish, end), most_of(book, wish, fill))
        self.assertGreater(min(counts), 50)


class LosingTest(unittest.TestCase):
    def refused(self, thing, word, at, book=FORK, wish=WISH, hands=(0,), near=(1, 9)):
        with self.assertRaises(InvalidPaper) as caught:
            lets_losing(book, wish, hands, near, thing)
        self.assertEqual(fields(caught.exception), (word, at), thing)

    def test_document(self):
        self.assertEqual(mosts_by(FORK, WISH, FILL, ((1, ((0, TWO),)),)), (ONE, NOUGHT))
        self.assertEqual(lets_losing(FORK, WISH, (0,), (1, 9), (FILL, ((1, ((0, TWO),)),))), (ONE, NOUGHT))

    def test_mosts_by(self):
        self.assertEqual(mosts_by(FORK, WISH, FILL, ()), (ONE, ONE))
        self.assertEqual(mosts_by(SPRING, (1,), (NOUGHT,), ((3, ((0, ONE),)),)), (ENDLESS, ENDLESS))
        with self.assertRaises(Stuck) as caught:
            mosts_by(FORK, WISH, FILL, ((3, ((0, ONE), (1, HALF))),))
        self.assertEqual(fields(caught.exception), (0, 1, 0))

    def test_faults(self):
        good = (FILL, ((1, ((0, TWO),)),))
        for thing in ODD + (good + (None,), [*good], good[:1]):
            self.refused(thing, "shape", -1)
        for fill in (None, FILL[:3], FILL + FILL[:1], list(FILL), FILL[:3] + ((2, 4),), FILL[:3] + (ENDLESS,)):
            self.refused((fill, good[1]), "fill", -1)
            self.refused((fill, None), "fill", -1)
        for run in (None, [], ((0, ((0, ONE),)),), ((1, ()),), ((1, ((3, ONE),)),), ((1, ((0, NOUGHT),)),), "-",
                    ((True, ((0, ONE),)),)):
            self.refused((FILL, run), "run", -1)
        # The least deed counts, wherever it is done, and ahead of where the run sticks.
        self.refused((FILL, ((1, ((2, ONE), (1, ONE))),)), "hands", 1)
        self.refused((FILL, ((1, ((0, TWO),)), (1, ((2, ONE),)))), "hands", 2)
        self.refused((FILL, ((1, ((0, TWO), (1, ONE))),)), "hands", 0, hands=())
        self.refused((FILL, ((1, ((0, (3, 1)),)),)), "stuck", -1)
        self.refused(((NOUGHT,) * 4, ((1, ((0, ONE),)),)), "stuck", -1)
        self.refused(((NOUGHT,) * 4, ()), "most", -1)
        self.refused(((NOUGHT, ONE, NOUGHT, NOUGHT), ()), "most", -1)
        self.refused(((NOUGHT,), ()), "most", -1, SPRING, (1,), ())
        self.refused(((NOUGHT,), ((1, ((0, ONE),)),)), "most", -1, SPRING, (1,), (0,))
        self.refused(((ONE, NOUGHT), ()), "most", -1, GROW, (0, 1), (0,))
        self.refused((FILL, ()), "near", -1)
        self.refused((FILL, ((1, ((0, ONE),)),)), "near", -1)
        self.assertEqual(lets_losing(FORK, WISH, (0,), HALF, (FILL, ((1, ((0, (3, 2)),)),))), (ONE, HALF))
        self.refused((FILL, ((1, ((0, (149, 100)),)),)), "near", -1, near=HALF)
        self.assertEqual(lets_losing(FORK, WISH, (2,), (1, 9), (FILL, ())), (ONE, ONE))
        # The bound has the sure share, and near times the most before.
        low = (2, (((1, 0), (0, 4)), ((1, 0), (0, 2))))
        thing = ((ONE, NOUGHT), ((1, ((1, (3, 4)),)),))
        self.assertEqual(lets_losing(low, (0, 1), (1,), (1, 8), thing), ((4, 1), (5, 2)))
        self.refused(thing, "near", -1, low, (0, 1), (1,), (1249, 10 ** 4))

    def good(self, book, wish, hands, near, thing):
        """The pair is what the document says, step by step; most before and behind."""
        fill, run = thing
        self.assertIs(is_run(book, run), True)
        can, end = can_be_done(book, fill, run)
        self.assertTrue(can)
        self.assertTrue({deed for turns, steps in run for deed, times in steps} <= set(hands))
        before, behind = most_of(book, wish, fill), most_of(book, wish, end)
        self.assertGreater(before[0], 0)
        self.assertNotEqual(behind, ENDLESS)
        self.assertFalse(less(product(before, plus(near, sure_share(book, wish, hands))), behind))
        # And the sure share is never lost.
        self.assertFalse(less(behind, product(before, sure_share(book, wish, hands))))
        self.assertEqual(lets_losing(book, wish, hands, near, thing), (before, behind))
        return before, behind

    def test_all(self):
        empty = 0
        for book, wish, hands in some_hands(120, 76):
            for near in NEARS:
                thing = losing_run(book, wish, hands, near)
                if tariff_of(book, wish) == ():
                    self.assertIsNone(thing)
                    empty += 1
                else:
                    self.good(book, wish, hands, near, thing)
        self.assertGreater(empty, 10)

    def test_deed(self):
        lost = 0
        for book, wish, hands in some_hands(200, 77):
            harmless = harmless_deeds(book, wish)
            pair_of = losing_deed(book, wish, hands)
            self.assertEqual(pair_of is None, set(hands) <= set(harmless))
            if pair_of is not None:
                deed, fill = pair_of
                self.assertIn(deed, hands)
                behind = after_step(book, fill, deed, ONE)
                self.assertTrue(less(most_of(book, wish, behind), most_of(book, wish, fill)))
                lost += 1
        self.assertGreater(lost, 60)

    def test_deed_edges(self):
        self.assertIsNone(losing_deed(FORK, WISH, ()))
        self.assertIsNone(losing_deed(FORK, WISH, (2,)))
        self.assertIsNone(losing_deed(SPRING, (1,), (0,)))
        # The tool is used up: with any grain of it left, nothing would be lost.
        worn = (3, (TOOL[1][0], ((0, 1, 0), (0, 0, 0))))
        deed, fill = losing_deed(worn, (0, 0, 1), (0, 1))
        self.assertEqual(deed, 1)
        self.assertTrue(less(most_of(worn, (0, 0, 1), after_step(worn, fill, 1, ONE)), most_of(worn, (0, 0, 1), fill)))
        # What the deed gives is worth more by the row that it does not keep than by others: much must be lost besides.
        rich = (4, (((0, 2, 2, 0), (0, 3, 2, 0)), ((1, 2, 0, 0), (0, 0, 0, 2))))
        wide = (5, (((2, 0, 0, 0, 1), (0, 0, 3, 1, 1)), ((1, 2, 0, 0, 0), (0, 1, 3, 1, 0)),
                    ((0, 0, 0, 0, 1), (0, 3, 0, 0, 0))))
        for book, wish, one in ((rich, WISH, 1), (wide, (0, 0, 2, 1, 0), 2)):
            deed, fill = losing_deed(book, wish, (one,))
            self.assertEqual(deed, one)
            self.assertTrue(less(most_of(book, wish, after_step(book, fill, deed, ONE)), most_of(book, wish, fill)))


class RestShareTest(unittest.TestCase):
    def test_document(self):
        self.assertIs(rests_alike(FORK, WISH), False)
        self.assertIs(rests_alike((1, ()), (2,)), True)

    def test_not_ranked(self):
        for book in (TOOL, SPRING, GROW):
            for call, given in ((losing_rest, (book, None, None)), (rests_alike, (book, None)),
                                (losing_rest, (book, (0, 0, 1), ONE))):
                with self.assertRaises(NotUsable) as caught:
                    call(*given)
                self.assertEqual(fields(caught.exception), ("book", -1))

    def test_all(self):
        counts = [0, 0]
        for book, wish, _ in some_hands(200, 78):
            if ranks_of(book) is None:
                continue
            alike = rests_alike(book, wish)
            counts[alike] += 1
            self.assertIs(alike, is_right(book, wish))
            for near in NEARS:
                fill, run = losing_rest(book, wish, near)
                before, behind = lets_losing(book, wish, all_hands(book), near, (fill, run))
                can, end = can_be_done(book, fill, run)
                self.assertTrue(can)
                self.assertIs(at_rest(book, end), True)
                self.assertEqual(worth_of(book, wish, end), behind)
            if alike:
                self.assertEqual(behind, before)
                rest = end_of(book, fill, rest_run(book, fill))
                self.assertEqual(worth_of(book, wish, rest), before)
            else:
                self.assertTrue(less(behind, before))
        self.assertGreater(min(counts), 30)


class ShareClassTest(unittest.TestCase):
    def test_methods(self):
        for book, wish, hands in ((FORK, WISH, (0, 2)), (HALVES, (0, 1), (0, 1)), (SPRING, (1,), (0,)),
                                  (BARE, (1, 0), ())):
            share = Share(book, wish, hands)
            self.assertEqual(share.share(), sure_share(book, wish, hands))
            self.assertEqual(share.harmless(), harmless_deeds(book, wish))
            self.assertEqual(share.right(), is_right(book, wish))
            self.assertEqual(share.rows(), tariff_of(book, wish))
            self.assertEqual(share.told(), (book, wish, hands))
            self.assertEqual(share.lose((1, 3)), losing_run(book, wish, hands, (1, 3)))
            for place in range(len(share.rows())):
                self.assertEqual(share.sandwich(place), sandwich_of(book, wish, hands, place))
            nothing = (0,) * book[0]
            self.assertIs(share.keeps(nothing, nothing), keeps_tariff(book, wish, nothing, nothing))
        self.assertIs(Share(FORK, WISH, ()).keeps((1, 0, 0, 0), (0, 1, 0, 0)), False)
        with self.assertRaises(NotUsable) as caught:
            Share(SPRING, (1,), ()).sandwich(0)
        self.assertEqual(fields(caught.exception), ("place", -1))

    def test_same(self):
        share = Share(FORK, WISH, (0, 2))
        self.assertTrue(share == Share(FORK, WISH, (0, 2)))
        for other in (Share(FORK, WISH, (0,)), Share(FORK, (0, 0, 0, 2), (0, 2)), Share((4, FORK[1][::-1]), WISH, (0, 2)),
                      (FORK, WISH, (0, 2)), None, 0):
            self.assertFalse(share == other)

    def test_lifts_nothing(self):
        chance = Random(79)
        stayed = 0
        for book, wish, _ in some_hands(60, 79):
            take = tuple(0 if part else chance.randint(0, 2) for part in wish)
            give = tuple(chance.randint(0, 1) for _ in wish)
            if not lifts(book, wish, take, give):
                more = with_deed(book, take, give)
                self.assertEqual(tariff_of(more, wish), tariff_of(book, wish))
                share = sure_share(book, wish, all_hands(book))
                self.assertFalse(less(share, sure_share(more, wish, all_hands(more))))
                stayed += 1
        self.assertGreater(stayed, 20)


if __name__ == "__main__":
    unittest.main()
