"""Points 63 to 66: modules, their doors, mosts and tariffs at the doors."""

import unittest
from random import Random

from stillhad.bookclasses import Book
from stillhad.doormosts import door_each, door_most
from stillhad.doortariffs import door_tariff, door_tariffs
from stillhad.errors import InvalidPaper, NotUsable
from stillhad.modulechecker import is_module, lets_module
from stillhad.modules import doors_turned, goal_fill, inner_of, module_fill, module_of, module_wish
from stillhad.mosts import most_of
from stillhad.quotients import less, plus
from stillhad.tariffkinds import is_tariff, least_of
from stillhad.tariffs import tariff_of
from stillhad.tariffsums import cut_to
from stillhad.trimming import trimmed
from tests.helpers import (
    BARE, ENDLESS, FORK, HALF, NOUGHT, ODD, ONE, SPRING, TOOL, TWO, ends_of, fields, limit_book, some_books, some_fill)

SPLIT = ((3, (((1, 0, 0), (0, 1, 0)), ((1, 0, 0), (0, 0, 1)))), (0,), (1, 2))
FORKED = (FORK, (0,), (3,))


def some_modules(many, seed, **bounds):
    """Modules of random books, with ins and outs in any sequence."""
    chance = Random(seed)
    for book in some_books(many, seed, **bounds):
        ends = ends_of(book)
        bare = [ware for ware in range(book[0]) if not any(give[ware] for take, give in book[1])]
        outs = tuple(chance.sample(ends, chance.randint(1, min(3, len(ends))))) if ends else ()
        left = [ware for ware in bare if ware not in outs]
        ins = tuple(chance.sample(left, chance.randint(0, min(3, len(left)))))
        if outs:
            yield book, ins, outs


class ModuleCheckerTest(unittest.TestCase):
    def refused(self, thing, word, at):
        with self.assertRaises(InvalidPaper) as caught:
            lets_module(thing)
        self.assertEqual(fields(caught.exception), (word, at), thing)
        self.assertIs(is_module(thing), False)

    def test_document(self):
        self.refused((TOOL, (0, 1), (2,)), "in", 1)

    def test_good(self):
        for thing, inner in ((FORKED, 2), (SPLIT, 0), ((TOOL, (0,), (2,)), 1), ((TOOL, (), (2,)), 2),
                             ((BARE, (), (1, 0)), 0), ((BARE, (1,), (0,)), 0), ((SPRING, (), (0,)), 0),
                             ((BARE, (), (1,)), 1)):
            self.assertEqual(lets_module(thing), inner)
            self.assertIs(is_module(thing), True)

    def test_faults(self):
        for thing in ODD + ((FORK, (0,)), FORKED + ((),), [*FORKED], (FORK,)):
            self.refused(thing, "shape", -1)
        for book in (None, [*FORK], (0, ()), FORK[:1], (4, (((1,), (1,)),)), Book(1), 4):
            self.refused((book, (0,), (3,)), "book", -1)
            self.refused((book, None, None), "book", -1)
        for ins in (None, [0], 0, "0", {0: 0}):
            self.refused((FORK, ins, (3,)), "ins", -1)
            self.refused((FORK, ins, ()), "ins", -1)
        for ins, at in (((4,), 0), ((-1,), 0), ((True,), 0), (("0",), 0), ((None,), 0), ((0, 0), 1), ((0, 1), 1),
                        ((1, 0), 0), ((0, 3), 1), ((0, False), 1), (((0,),), 0), ((0, [0]), 1), ((10 ** 60,), 0)):
            self.refused((FORK, ins, (3,)), "in", at)
            self.refused((FORK, ins, None), "in", at)
        for outs in (None, [3], 3, "3", ()):
            self.refused((FORK, (0,), outs), "outs", -1)
        for outs, at in (((4,), 0), ((-1,), 0), ((3, 3), 1), ((True,), 0), ((3, 0), 1), ((1,), 0), ((3, 2), 1),
                         ((3, None), 1), ((3.0,), 0), (((3,),), 0)):
            self.refused((FORK, (0,), outs), "out", at)
        # Among the ins, though no deed takes it.
        self.refused((BARE, (1,), (0, 1)), "out", 1)

    def test_all(self):
        chance = Random(91)
        counts = [0, 0]
        for book in some_books(400, 91, wares=4, deeds=3):
            def wares():
                return tuple(chance.sample(range(book[0]), chance.randint(0, min(2, book[0]))))
            thing = (book, wares(), wares())
            ins, outs = thing[1:]
            good = outs != () and not set(ins) & set(outs) and all(
                not any(give[ware] for ware in ins) and not any(take[ware] for ware in outs) for take, give in book[1])
            self.assertIs(is_module(thing), good)
            counts[good] += 1
            if good:
                self.assertEqual(lets_module(thing), book[0] - len(ins) - len(outs))
        self.assertGreater(min(counts), 50)


class ModulesTest(unittest.TestCase):
    def refused(self, told, call, *given):
        with self.assertRaises(NotUsable) as caught:
            call(*given)
        self.assertEqual(fields(caught.exception), told, given)

    def test_document(self):
        self.assertEqual(module_of(FORK, (0,), (3,)), FORKED)
        self.assertEqual(inner_of(FORKED), (1, 2))
        self.assertEqual(module_wish(SPLIT, (2, 0)), (0, 2, 0))
        self.assertEqual(goal_fill(SPLIT, (HALF, NOUGHT)), (NOUGHT, HALF, NOUGHT))
        self.assertEqual(doors_turned(SPLIT, (0,), (1, 0))[2], (2, 1))

    def test_edges(self):
        bare = (BARE, (), (1, 0))
        self.assertEqual(module_of(*bare), bare)
        self.assertEqual(inner_of(bare), ())
        self.assertEqual(module_fill(bare, ()), (NOUGHT, NOUGHT))
        self.assertEqual(module_wish(bare, (3, 5)), (5, 3))
        self.assertEqual(goal_fill(bare, (HALF, TWO)), (TWO, HALF))
        self.assertEqual(doors_turned(bare, (), (1, 0)), (BARE, (), (0, 1)))
        five = ((5, ()), (4, 0, 2), (3, 1))
        self.assertEqual(module_fill(five, (ONE, TWO, HALF)), (TWO, NOUGHT, HALF, NOUGHT, ONE))
        # In k is the old in number in_order[k].
        self.assertEqual(doors_turned(five, (1, 2, 0), (0, 1)), ((5, ()), (0, 2, 4), (3, 1)))
        self.assertEqual(inner_of((TOOL, (0,), (2,))), (1,))

    def test_wrong(self):
        for ins, outs, told in (
                (None, None, ("ins", -1)), ([0], (3,), ("ins", -1)), ((1,), (3,), ("ins", 0)), ((0, 0), None, ("ins", 1)),
                ((0, True), (3,), ("ins", 1)), ((0,), (), ("outs", -1)), ((0,), [3], ("outs", -1)),
                ((0,), (3, 3), ("outs", 1)), ((0,), (0,), ("outs", 0)), ((), (1,), ("outs", 0)), ((4,), (), ("ins", 0))):
            self.refused(told, module_of, FORK, ins, outs)
        self.refused(("weights", -1), module_wish, SPLIT, (0, 0))
        self.refused(("weights", -1), door_most, SPLIT, (0, 0), None)
        self.refused(("amounts", -1), door_most, SPLIT, (0, 1), None)
        self.refused(("in_order", -1), doors_turned, SPLIT, (1,), None)
        self.refused(("door", -1), door_tariff, SPLIT, 2)


class DoorsTest(unittest.TestCase):
    def test_document(self):
        self.assertEqual(door_most(SPLIT, (3, 1), (TWO,)), (6, 1))
        self.assertEqual(door_each(SPLIT, (TWO,)), (TWO, TWO))
        self.assertEqual(door_tariff(FORKED, 0), ((HALF,),))

    def test_edges(self):
        self.assertEqual(door_tariffs((SPRING, (), (0,))), ((),))
        self.assertEqual(door_tariffs((BARE, (), (1, 0))), (((),), ((),)))
        self.assertEqual(door_tariffs((BARE, (1,), (0,))), (((NOUGHT,),),))
        self.assertEqual(door_each((SPRING, (), (0,)), ()), (ENDLESS,))
        self.assertEqual(door_tariffs((TOOL, (0,), (2,))), (((NOUGHT,),),))
        # The ins in their own sequence, and the rows as Python sorts them by then.
        tools = (4, (((1, 1, 0, 0), (0, 0, 1, 0)), ((0, 0, 1, 0), (0, 0, 0, 1))))
        self.assertEqual(door_tariff((tools, (1, 0), (3,)), 0), ((NOUGHT, ONE), (ONE, NOUGHT)))
        grow = ((3, (((1, 0, 0), (0, 0, 1)), ((0, 2, 0), (0, 0, 1)))), (1, 0), (2,))
        self.assertEqual(door_tariff(grow, 0), ((HALF, ONE),))
        # A tool as an in is kept: with any grain of it there is no end.
        made = ((3, (((0, 1, 0), (0, 0, 1)), ((1, 0, 0), (0, 1, 0)), ((0, 1, 0), (0, 2, 0)))), (0,), (2,))
        self.assertEqual(door_tariff(made, 0), ((ENDLESS,),))

    def check(self, module, chance, tries=4):
        book, ins, outs = module
        tariffs = door_tariffs(module)
        self.assertEqual(len(tariffs), len(outs))
        for door, rows in enumerate(tariffs):
            self.assertEqual(door_tariff(module, door), rows)
            self.assertIs(is_tariff(len(ins), rows), True)
            self.assertEqual(trimmed(rows), rows)
        for _ in range(tries):
            amounts = some_fill(chance, len(ins))
            fill = [NOUGHT] * book[0]
            for ware, amount in zip(ins, amounts):
                fill[ware] = amount
            each = door_each(module, amounts)
            for ware, rows, most in zip(outs, tariffs, each):
                wish = tuple(int(ware == one) for one in range(book[0]))
                self.assertEqual(most, most_of(book, wish, tuple(fill)))
                self.assertEqual(most, least_of(rows, amounts))
            weights = tuple(chance.randint(1, 3) for _ in outs)
            wish = tuple(weights[outs.index(ware)] if ware in outs else 0 for ware in range(book[0]))
            self.assertEqual(door_most(module, weights, amounts), most_of(book, wish, tuple(fill)))
            self.assertEqual(tuple(fill), module_fill(module, amounts))
            self.assertEqual(wish, module_wish(module, weights))
            one = tuple(int(place == len(outs) - 1) for place in range(len(outs)))
            self.assertEqual(door_most(module, one, amounts), each[-1])
            total = NOUGHT
            for most, weight in zip(each, weights):
                for _ in range(weight):
                    total = plus(total, most)
            self.assertFalse(less(total, door_most(module, weights, amounts)))

    def test_all(self):
        chance = Random(92)
        many = 0
        for module in some_modules(500, 92, wares=5, deeds=4):
            self.check(module, chance)
            many += len(module[1]) > 1
            book, ins, outs = module
            for ware, rows in zip(outs, door_tariffs(module)):
                wish = tuple(int(ware == one) for one in range(book[0]))
                lot = tuple(sorted(ins))
                if lot == ins:
                    self.assertEqual(rows, cut_to(tariff_of(book, wish), lot))
        self.assertGreater(many, 30)

    def test_limits(self):
        chance = Random(93)
        for seed in range(6):
            size, deeds = limit_book(seed)
            # Wares 0 and 1 are never given, so they may be ins.
            book = (size, tuple((take, (0, 0) + give[2:]) for take, give in deeds))
            self.check((book, (1, 0), (6, 5)), chance)


if __name__ == "__main__":
    unittest.main()
