"""Points 39 to 42: what follows, its papers and runs, books that say the same, Mosts."""

import unittest
from fractions import Fraction
from random import Random

from stillhad.bookchanges import scaled, shuffled, with_deed, without_deed
from stillhad.endlesspapers import endless_paper
from stillhad.errors import Barred, InvalidPaper, NotUsable, TooMuch
from stillhad.fluxpapers import flux_paper
from stillhad.followpapers import follow_paper, lets_follow
from stillhad.following import follows, goal_run, stretch_of
from stillhad.mostclasses import Mosts
from stillhad.mosts import most_of
from stillhad.pricepapers import price_paper
from stillhad.quotients import less, plus, product
from stillhad.rowsums import fill_times
from stillhad.runfors import run_for
from stillhad.runkinds import is_run
from stillhad.running import end_of, stuck_at
from stillhad.samebooks import core_of, deed_follows, idle_deeds, said_apart, says_same
from tests.helpers import (
    BARE, ENDLESS, FILL, FORK, GROW, HALF, NOUGHT, ODD, ONE, SINK, SPRING, TOOL, TWO, WISH, at_most, can_be_done, closed,
    fields, fraction, fractions, moved, pair, pairs, some_books, some_fill, some_run, some_wish, supported, tells)

MORE = (4, FORK[1] + (((2, 0, 0, 0), (0, 0, 0, 1)),))
GRAIN = (1, 10 ** 12)


def some_goals(many, seed):
    """Books, fills and goals, the same for the same seed; of the goals many can be had or nearly so."""
    chance = Random(seed)
    for book in some_books(many, seed):
        fill = some_fill(chance, book[0])
        run = some_run(chance, book)
        goal = some_fill(chance, book[0], top=3)
        if stuck_at(book, fill, run) is None and chance.random() < 0.5:
            goal = fill_times(end_of(book, fill, run), pair(Fraction(chance.randint(1, 6), 4)))
        yield book, fill, goal


class FollowTest(unittest.TestCase):
    def barred(self, book, fill, goal, row):
        """The row never rises and tells more at the goal, so the goal does not follow."""
        for take, give in book[1]:
            self.assertTrue(at_most(tells(row, give), tells(row, take)))
        self.assertFalse(at_most(tells(row, fractions(goal)), tells(row, fractions(fill))))

    def reached(self, book, fill, goal, opening, flux):
        """By the flux of deeds within the closed lot the fill comes to the goal, so the goal follows."""
        lot = closed(book, supported(fill))
        now = supported(fill)
        for deed in opening:
            take, give = book[1][deed]
            self.assertLessEqual(set(supported([(number, 1) for number in take])), set(now))
            now = tuple(sorted(set(now) | set(supported([(number, 1) for number in give]))))
        self.assertEqual(now, lot)
        amounts = fractions(fill)
        for deed, times in zip(book[1], flux):
            if fraction(times):
                self.assertTrue(all(ware in lot for ware, number in enumerate(deed[0]) if number))
            amounts = moved(amounts, deed, fraction(times))
        self.assertTrue(all(amount >= aim for amount, aim in zip(amounts, fractions(goal))))

    def shown(self, book, fill, goal):
        """Whether the goal follows, with what the document says of it as a proof."""
        paper = follow_paper(book, fill, goal)
        told = lets_follow(book, fill, goal, paper)
        self.assertIs(follows(book, fill, goal), told)
        if told:
            self.assertEqual((len(paper), paper[0]), (3, "flux"))
            self.reached(book, fill, goal, paper[1], paper[2])
        else:
            self.assertEqual((len(paper), paper[0]), (2, "row"))
            self.barred(book, fill, goal, paper[1])
        return told

    def done(self, book, fill, goal, near):
        run = goal_run(book, fill, goal, near)
        self.assertIs(is_run(book, run), True)
        can, end = can_be_done(book, fill, run)
        self.assertTrue(can)
        part = 1 - fraction(near)
        self.assertTrue(all(there >= part * aim for there, aim in zip(fractions(end), fractions(goal))))

    def refused(self, book, fill, goal):
        with self.assertRaises(Barred) as caught:
            goal_run(book, fill, goal, HALF)
        self.assertEqual(list(vars(caught.exception)), ["row"])
        self.barred(book, fill, goal, caught.exception.row)

    def test_document(self):
        self.assertIs(self.shown(FORK, FILL, (NOUGHT, ONE, ONE, NOUGHT)), True)
        self.assertEqual(stretch_of(FORK, FILL, (NOUGHT, ONE, NOUGHT, ONE)), (2, 3))
        self.assertEqual(stretch_of(TOOL, (TWO, NOUGHT, NOUGHT), (ONE, ONE, NOUGHT)), NOUGHT)

    def test_edges(self):
        bare = (NOUGHT,) * 4
        self.assertEqual(stretch_of(FORK, FILL, bare), ENDLESS)
        self.assertEqual(stretch_of(FORK, bare, bare), ENDLESS)
        self.assertEqual(stretch_of(FORK, bare, WISH_FILL), NOUGHT)
        self.assertEqual(stretch_of(BARE, (ONE, HALF), (NOUGHT, TWO)), (1, 4))
        self.assertEqual(stretch_of(BARE, (ONE, HALF), (TWO, TWO)), (1, 4))
        self.assertEqual(stretch_of(SPRING, (NOUGHT,), (TWO,)), ENDLESS)
        self.assertEqual(stretch_of(SINK, (ONE, ONE), (TWO, NOUGHT)), HALF)
        self.assertEqual(stretch_of(GROW, ((1, 9), NOUGHT), (NOUGHT, TWO)), ENDLESS)
        self.assertEqual(stretch_of(GROW, ((1, 9), NOUGHT), (ONE, TWO)), (1, 9))
        self.assertEqual(stretch_of(TOOL, (TWO, (1, 9), NOUGHT), (NOUGHT, NOUGHT, ONE)), TWO)
        for near in (HALF, (10 ** 6 - 1, 10 ** 6), (1, 10 ** 6)):
            self.done(FORK, FILL, WISH_FILL, near)
            self.done(FORK, FILL, bare, near)
            self.done(BARE, (ONE, HALF), (ONE, HALF), near)
            self.done(GROW, ((1, 9), NOUGHT), ((1, 9), TWO), near)
            self.done(TOOL, (TWO, (1, 9), NOUGHT), (NOUGHT, (1, 9), TWO), near)
        self.refused(TOOL, (TWO, NOUGHT, NOUGHT), (NOUGHT, NOUGHT, GRAIN))
        self.refused(BARE, (ONE, HALF), (ONE, (10 ** 12 + 1, 2 * 10 ** 12)))

    def test_all(self):
        told = [0, 0]
        for book, fill, goal in some_goals(500, 41):
            told[self.shown(book, fill, goal)] += 1
            stretch = stretch_of(book, fill, goal)
            if stretch == ENDLESS:
                for factor in (ONE, (10 ** 6, 1)):
                    self.assertTrue(self.shown(book, fill, fill_times(goal, factor)))
                continue
            self.assertTrue(self.shown(book, fill, fill_times(goal, stretch)))
            beyond = fill_times(goal, plus(stretch, GRAIN))
            self.assertFalse(self.shown(book, fill, beyond))
            self.refused(book, fill, beyond)
            for near in ((1, 3), (10 ** 6 - 1, 10 ** 6), (1, 10 ** 6)):
                self.done(book, fill, fill_times(goal, stretch), near)
            # G1 and the consequences: above nought just where the goal can come above nought at all.
            there = set(supported(goal)) <= set(closed(book, supported(fill)))
            self.assertEqual(stretch[0] > 0, there)
        self.assertGreater(min(told), 100)

    def test_large(self):
        chance = Random(44)
        told = [0, 0]
        for size, many in ((8, 10), (8, 10), (8, 10), (12, 16), (18, 24), (18, 24)) * 3:
            def numbers():
                return tuple(chance.randint(1, 10 ** 6) if chance.random() < 0.25 else 0 for _ in range(size))
            book = (size, tuple((numbers(), numbers()) for _ in range(many)))
            fill = tuple(pair(Fraction(chance.randint(0, 10 ** 12), chance.randint(1, 10 ** 12))) for _ in range(size))
            goal = tuple(pair(Fraction(chance.randint(0, 10 ** 6), chance.randint(1, 10 ** 6))) for _ in range(size))
            stretch = stretch_of(book, fill, goal)
            if stretch != ENDLESS:
                goal = fill_times(goal, stretch)
                self.refused(book, fill, fill_times(goal, (10 ** 6 + 1, 10 ** 6)))
            told[self.shown(book, fill, goal)] += 1
            self.done(book, fill, goal, (1, 10 ** 6))
        self.assertEqual(told[0], 0)

    def test_consequences(self):
        chance = Random(42)
        for book, fill, goal in some_goals(200, 42):
            run = some_run(chance, book)
            if stuck_at(book, fill, run) is None:
                self.assertIs(follows(book, fill, end_of(book, fill, run)), True)
            wish = some_wish(chance, book)
            if wish and follows(book, fill, goal):
                self.assertFalse(less(most_of(book, wish, fill), most_of(book, wish, goal)))


WISH_FILL = (NOUGHT, NOUGHT, NOUGHT, ONE)


class FollowPaperTest(unittest.TestCase):
    def refused(self, thing, word, at, book=FORK, fill=FILL, goal=(NOUGHT, ONE, ONE, NOUGHT)):
        with self.assertRaises(InvalidPaper) as caught:
            lets_follow(book, fill, goal, thing)
        self.assertEqual(fields(caught.exception), (word, at), thing)

    def test_document(self):
        goal = (NOUGHT, ONE, ONE, NOUGHT)
        self.assertIs(lets_follow(FORK, FILL, goal, ("flux", (0, 1, 2), (ONE, ONE, NOUGHT))), True)
        bar = ("row", (NOUGHT, ENDLESS, ONE))
        self.assertIs(lets_follow(TOOL, (TWO, NOUGHT, NOUGHT), (NOUGHT, NOUGHT, ONE), bar), False)

    def test_shapes(self):
        good = ((0, 1, 2), (ONE, ONE, NOUGHT))
        bad = ODD + (good, ("flux",) + good[:1], ("flux",) + good + (None,), ["flux", *good], ("row",) + good,
                     (b"flux",) + good, ("flux ",) + good, (None,) + good, ("row",), ["row", (NOUGHT,) * 4],
                     ("flux", (NOUGHT,) * 4), ((NOUGHT,) * 4, "row"), ("row", (NOUGHT,) * 4, None), (("row",), None))
        for thing in bad:
            self.refused(thing, "shape", -1)

    def test_triples(self):
        good = (ONE, ONE, NOUGHT)
        for opening, word, at in (
                ([0, 1, 2], "shape", -1), (None, "shape", -1), ((0, 3), "deed", 1), ((True, 0), "deed", 0),
                ((0, 0), "deed", 1), ((2,), "shut", 0), ((0, 1), "open", -1), ((), "open", -1)):
            self.refused(("flux", opening, good), word, at)
            self.refused(("flux", opening, None), word, at)
        for flux in (None, list(good), good[1:], good + (ONE,), (ONE, ONE, ENDLESS), (ONE, ONE, (2, 2)), (ONE, ONE, True)):
            self.refused(("flux", (0, 1, 2), flux), "flux", -1)
        self.refused(("flux", (), (NOUGHT, ONE, ONE)), "within", 1, fill=WISH_FILL)
        self.refused(("flux", (), (ONE, ONE, ONE)), "within", 0, fill=WISH_FILL)
        self.refused(("flux", (0, 1, 2), (ONE, HALF, NOUGHT)), "lacks", 2)
        self.refused(("flux", (0, 1, 2), (HALF, HALF, NOUGHT)), "lacks", 1)
        # It is below nought, where the goal asks for nothing.
        self.refused(("flux", (0, 1, 2), (TWO, ONE, NOUGHT)), "lacks", 0)
        self.refused(("flux", (0, 1, 2), good), "lacks", 3, goal=(NOUGHT, ONE, ONE, GRAIN))
        more = (ONE, (10 ** 12 + 1, 10 ** 12), NOUGHT)
        self.refused(("flux", (0, 1, 2), more), "lacks", 0)
        self.assertIs(lets_follow(FORK, FILL, (NOUGHT,) * 4, ("flux", (1, 0, 2), (NOUGHT,) * 3)), True)

    def test_pairs(self):
        far = (NOUGHT, TWO, TWO, NOUGHT)
        for row in (None, [ONE] * 4, (ONE,) * 3, (ONE,) * 5, (ONE, ONE, ONE, (2, 2)), (ONE, ONE, ONE, True), "row"):
            self.refused(("row", row), "row", -1, goal=far)
        self.refused(("row", (NOUGHT, NOUGHT, ONE, NOUGHT)), "rises", 1, goal=far)
        self.refused(("row", (ONE, TWO, TWO, ENDLESS)), "rises", 0, goal=far)
        self.refused(("row", (ONE, ONE, ONE, ENDLESS)), "rises", 2, goal=far)
        self.refused(("row", (ONE, HALF, HALF, ONE)), "even", -1, goal=far)
        self.refused(("row", (ENDLESS,) * 4), "even", -1, goal=far)
        self.refused(("row", (ONE, ONE, ONE, TWO)), "even", -1)
        self.refused(("row", (NOUGHT,) * 4), "even", -1, goal=far)
        self.assertIs(lets_follow(FORK, FILL, far, ("row", (ONE, ONE, ONE, NOUGHT))), False)
        self.assertIs(lets_follow(SPRING, (ONE,), (TWO,), ("flux", (), (ONE,))), True)
        self.refused(("row", (ONE,)), "rises", 0, SPRING, (ONE,), (TWO,))


class SameBooksTest(unittest.TestCase):
    def test_document(self):
        self.assertEqual((idle_deeds(MORE), core_of(MORE) == FORK), ((3,), True))
        self.assertEqual(said_apart(MORE, (4, FORK[1][1:])), (0, 0))

    def test_edges(self):
        self.assertIs(deed_follows(BARE, (1, 2), (1, 1)), True)
        self.assertIs(deed_follows(BARE, (1, 2), (2, 1)), False)
        self.assertIs(deed_follows(BARE, (0, 0), (0, 0)), True)
        self.assertIs(deed_follows(SPRING, (0,), (10 ** 6,)), True)
        self.assertIs(deed_follows(TOOL, (1, 1, 0), (0, 1, 1)), True)
        self.assertIs(deed_follows(TOOL, (1, 0, 0), (0, 0, 1)), False)
        self.assertIs(deed_follows(TOOL, (1000, 1, 0), (0, 1, 1000)), True)
        self.assertEqual(idle_deeds(BARE), ())
        self.assertEqual(core_of(BARE), BARE)
        self.assertIsNone(said_apart(BARE, BARE))
        self.assertIsNone(said_apart(SINK, (2, ())))
        self.assertEqual(said_apart((2, ()), GROW), (1, 0))
        self.assertEqual(said_apart(GROW, (2, ())), (0, 0))
        # Of two deeds alike each one follows in the book without it; the core strikes the last one alone.
        twice = (3, (TOOL[1][0], TOOL[1][0]))
        self.assertEqual((idle_deeds(twice), core_of(twice)), ((0, 1), TOOL))
        self.assertEqual(core_of((3, (TOOL[1][0], ((2, 2, 0), (0, 2, 2))))), TOOL)
        chain = (3, (((1, 0, 0), (0, 0, 1)), ((1, 0, 0), (0, 1, 0)), ((0, 1, 0), (0, 0, 1))))
        self.assertEqual((idle_deeds(chain), core_of(chain)), ((0,), (3, chain[1][1:])))
        self.assertEqual(said_apart((3, chain[1][:2]), chain), (1, 2))
        self.assertEqual(said_apart(chain, (3, chain[1][:2])), (0, 2))

    def test_all(self):
        chance = Random(43)
        unlike = idle = 0
        for book in some_books(250, 43, wares=4, deeds=5):
            many = len(book[1])
            self.assertIs(says_same(book, book), True)
            core = core_of(book)
            self.assertIs(says_same(book, core), True)
            self.assertEqual(idle_deeds(core), ())
            idle += core != book
            plain = tuple(deed for deed in range(many) if deed_follows(without_deed(book, deed), *book[1][deed]))
            self.assertEqual(idle_deeds(book), plain)
            left = list(range(many))
            for deed in reversed(range(many)):
                rest = [one for one in left if one != deed]
                if deed_follows((book[0], tuple(book[1][one] for one in rest)), *book[1][deed]):
                    left = rest
            self.assertEqual(core, (book[0], tuple(book[1][one] for one in left)))
            for take, give in book[1]:
                self.assertIs(deed_follows(book, take, give), True)
                self.assertIs(follows(book, pairs(take), pairs(give)), True)
            if not many:
                continue
            deed = chance.randrange(many)
            same = shuffled(scaled(book, deed, 3), tuple(chance.sample(range(many), many)))
            self.assertIsNone(said_apart(book, same))
            self.assertIsNone(said_apart(same, with_deed(book, *book[1][deed])))
            less_of = without_deed(book, deed)
            gone = deed_follows(less_of, *book[1][deed])
            self.assertEqual(said_apart(book, less_of), None if gone else (0, deed))
            self.assertEqual(said_apart(less_of, book), None if gone else (1, deed))
            unlike += not gone
            self.assertIs(says_same(less_of, book), gone)
            wish = some_wish(chance, book)
            if wish:
                fill = some_fill(chance, book[0])
                self.assertEqual(most_of(book, wish, fill), most_of(core, wish, fill))
        self.assertGreater(min(unlike, idle), 50)

    def test_first_of_all(self):
        other = (2, (((1, 0), (0, 1)), ((1, 0), (0, 2)), ((0, 1), (3, 0))))
        self.assertEqual(said_apart(other, (2, other[1][:1])), (0, 1))
        self.assertEqual(said_apart((2, other[1][:1]), other), (1, 1))
        # Both have deeds that don't follow in the other one: the deed of the first book counts.
        self.assertEqual(said_apart((2, other[1][:2]), (2, other[1][2:])), (0, 0))


class MostsTest(unittest.TestCase):
    def test_methods(self):
        for book, wish, fill, worth in (
                (FORK, WISH, FILL, HALF), (TOOL, (0, 0, 1), (TWO, ONE, NOUGHT), HALF),
                (GROW, (0, 1), (HALF, NOUGHT), TWO), (BARE, (1, 1), (ONE, HALF), ONE)):
            mosts = Mosts(book, wish)
            self.assertEqual(mosts.most(fill), most_of(book, wish, fill))
            self.assertEqual(mosts.price(fill), price_paper(book, wish, fill))
            self.assertEqual(mosts.flux(fill), flux_paper(book, wish, fill))
            self.assertEqual(mosts.endless(fill), endless_paper(book, wish, fill))
            self.assertEqual(mosts.run(fill, worth), run_for(book, wish, fill, worth))
            self.assertEqual(mosts.told(), (book, wish))
        with self.assertRaises(TooMuch):
            Mosts(FORK, WISH).run(FILL, ONE)

    def test_same(self):
        mosts = Mosts(FORK, WISH)
        self.assertTrue(mosts == Mosts(FORK, WISH))
        for other in (Mosts(FORK, (0, 0, 0, 2)), Mosts(MORE, WISH), (FORK, WISH), None, 0, FORK):
            self.assertFalse(mosts == other)
        self.assertEqual(product(mosts.most(FILL), TWO), Mosts(FORK, (0, 0, 0, 2)).most(FILL))

    def test_wrong(self):
        for book, wish, word in ((None, WISH, "book"), (BARE, WISH, "wish"), (FORK, (1, 0, 0, 1), "wish"),
                                 ([4, FORK[1]], None, "book"), (FORK, (0,) * 4, "wish")):
            with self.assertRaises(NotUsable) as caught:
                Mosts(book, wish)
            self.assertEqual(fields(caught.exception), (word, -1))


if __name__ == "__main__":
    unittest.main()
