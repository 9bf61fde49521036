"""Points 66 to 68 and their consequences: right modules, layers, joiners, right twins."""

import unittest
from fractions import Fraction
from random import Random

from stillhad.doormosts import door_each, door_most
from stillhad.doortariffs import door_tariffs
from stillhad.errors import HouseError, NoTwin, NotUsable
from stillhad.layers import joiner_of, layers_of
from stillhad.modulechecker import is_module, lets_module
from stillhad.rightmodules import is_right_module, unkept_door
from stillhad.rights import unkept
from stillhad.tariffkinds import is_tariff, least_of
from stillhad.trimming import trimmed
from stillhad.twins import has_twin, twin_of
from stillhad.wishes import unit_wish
from tests.helpers import (
    BARE, BOTH, ENDLESS, FORKED, HALF, NOUGHT, ONE, SPLIT, SPRING, TOOL, TOOLED, TWO, fields, forking_modules,
    fraction, fractions, limit_book, plain, rich_modules, some_fill, some_tariff, some_weights, summed, tells)

BOTH_TARIFFS = (((ONE,),),) * 2


class RightModulesTest(unittest.TestCase):
    def test_document(self):
        self.assertEqual(unkept_door(SPLIT), (0, 1, 0))
        self.assertEqual(unkept_door(FORKED), (0, 0, 0))
        self.assertIs(is_right_module(SPLIT), False)
        self.assertIs(is_right_module(FORKED), False)

    def test_edges(self):
        for module in (TOOLED, (TOOL, (0,), (2,)), (TOOL, (), (2,)), (BARE, (), (1, 0)), ((1, ()), (), (0,)),
                       ((SPRING), (), (0,)), BOTH):
            self.assertIs(is_right_module(module), True)
            self.assertIsNone(unkept_door(module))
        # The doors come in the sequence of the outs, not of the wares.
        turned = (SPLIT[0], (0,), (2, 1))
        self.assertEqual(unkept_door(turned), (0, 0, 0))
        # A deed that takes a whole in for one of three outs loses at the others alone.
        third = ((4, (((1, 0, 0, 0), (0, 1, 1, 0)), ((1, 0, 0, 0), (0, 1, 1, 1)))), (0,), (1, 2, 3))
        self.assertEqual(unkept_door(third), (2, 0, 0))
        # Rows in their sequence: the second one of two is not kept.
        tools = ((4, (((1, 1, 0, 0), (0, 1, 0, 1)), ((0, 1, 0, 0), (0, 0, 1, 0)))), (0, 1), (3,))
        self.assertEqual(unkept(tools[0], (0, 0, 0, 1)), ((1, 0),))
        self.assertEqual(unkept_door(tools), (0, 1, 0))

    def test_all(self):
        counts = [0, 0]
        for module in rich_modules(150, 110, outs=(1, 3), part=0.3):
            book, ins, outs = module
            triples = sorted(
                (door, deed, place) for door, ware in enumerate(outs)
                for deed, place in unkept(book, unit_wish(book, ware)))
            self.assertEqual(unkept_door(module), triples[0] if triples else None)
            self.assertIs(is_right_module(module), not triples)
            counts[not triples] += 1
        self.assertGreater(min(counts), 25)


class LayersTest(unittest.TestCase):
    def test_document(self):
        self.assertEqual(layers_of(1, (((HALF,),),)),
                         ((3, (((2, 0, 0), (0, 1, 0)), ((0, 1, 0), (0, 0, 1)))), (0,), (2,)))
        tooled = layers_of(2, (((NOUGHT, ENDLESS), (ONE, NOUGHT)),))
        self.assertEqual(tooled[0][1][1:3], (((0, 1, 0, 0, 0, 0), (0, 0, 0, 0, 1, 0)),
                                             ((0, 0, 0, 0, 1, 0), (0, 0, 1, 0, 1, 0))))
        for amounts, most in (((TWO, NOUGHT), NOUGHT), ((TWO, (1, 9)), TWO), ((HALF, TWO), HALF)):
            self.assertEqual(door_each(tooled, amounts), (most,))
        self.assertEqual(layers_of(1, BOTH_TARIFFS), BOTH)

    def test_edges(self):
        self.assertEqual(layers_of(0, ((),)), ((1, (((0,), (1,)),)), (), (0,)))
        self.assertEqual(layers_of(0, (((),),)), ((2, (((1, 0), (0, 1)),)), (), (1,)))
        # For an empty tariff the door's deed takes nothing; an in whose deed would give nothing has none.
        self.assertEqual(layers_of(2, ((), ((NOUGHT, NOUGHT),))),
                         ((5, (((0, 0, 0, 0, 0), (0, 0, 0, 1, 0)), ((0, 0, 1, 0, 0), (0, 0, 0, 0, 1)))), (0, 1), (3, 4)))
        # Wares: in 0, in 1; rows 2, 3, flag 4 of row 2; row 5, flag 6; outs 7, 8.
        rows = ((ENDLESS, (1, 4)), (HALF, (2, 3)))
        module = layers_of(2, (rows, ((ENDLESS, ENDLESS),)))
        self.assertEqual(module[1:], ((0, 1), (7, 8)))
        self.assertEqual(module[0], (9, (
            ((2, 0, 0, 0, 0, 0, 0, 0, 0), (0, 0, 0, 1, 1, 0, 1, 0, 0)),
            ((0, 12, 0, 0, 0, 0, 0, 0, 0), (0, 0, 3, 8, 0, 0, 1, 0, 0)),
            ((0, 0, 0, 0, 1, 0, 0, 0, 0), (0, 0, 1, 0, 1, 0, 0, 0, 0)),
            ((0, 0, 0, 0, 0, 0, 1, 0, 0), (0, 0, 0, 0, 0, 1, 1, 0, 0)),
            ((0, 0, 1, 1, 0, 0, 0, 0, 0), (0, 0, 0, 0, 0, 0, 0, 1, 0)),
            ((0, 0, 0, 0, 0, 1, 0, 0, 0), (0, 0, 0, 0, 0, 0, 0, 0, 1)))))
        # c is the least one for all tariffs together, nought and endless asking for nothing.
        both = layers_of(1, (((NOUGHT,), ((1, 6),)), ((ENDLESS,), ((3, 4),))))
        self.assertEqual(both[0][1][0][0][0], 12)
        self.assertEqual(layers_of(1, (((ENDLESS,),),))[0][1][0], ((1, 0, 0, 0), (0, 0, 1, 0)))

    def plainly(self, many, tariffs):
        """The module of layers, word by word."""
        wares = [("in", k) for k in range(many)]
        for door, rows in enumerate(tariffs):
            wares += [("row", door, k) for k in range(len(rows))]
            wares += [("flag", door, k) for k, row in enumerate(rows) if ENDLESS in row]
        wares += [("out", door) for door in range(len(tariffs))]

        def side(told):
            return tuple(told.get(ware, 0) for ware in wares)

        deeds = []
        for k in range(many):
            prices = [row[k] for rows in tariffs for row in rows if row[k] != ENDLESS]
            taken = next(c for c in range(1, 10 ** 6) if all((fraction(price) * c).denominator == 1 for price in prices))
            given = {}
            for door, rows in enumerate(tariffs):
                for at, row in enumerate(rows):
                    if row[k] == ENDLESS:
                        given["flag", door, at] = 1
                    else:
                        given["row", door, at] = int(fraction(row[k]) * taken)
            if any(given.values()):
                deeds.append((side({("in", k): taken}), side(given)))
        for ware in wares:
            if ware[0] == "flag":
                deeds.append((side({ware: 1}), side({ware: 1, ("row",) + ware[1:]: 1})))
        for door, rows in enumerate(tariffs):
            deeds.append((side({("row", door, k): 1 for k in range(len(rows))}), side({("out", door): 1})))
        return ((len(wares), tuple(deeds)), tuple(range(many)), tuple(range(len(wares) - len(tariffs), len(wares))))

    def test_all(self):
        chance = Random(111)
        for _ in range(150):
            many = chance.randint(0, 3)
            tariffs = tuple(some_tariff(chance, many, rows=3) for _ in range(chance.randint(1, 3)))
            self.assertTrue(all(is_tariff(many, rows) for rows in tariffs))
            module = layers_of(many, tariffs)
            self.assertEqual(module, self.plainly(many, tariffs))
            self.assertEqual(lets_module(module), module[0][0] - many - len(tariffs))
            for _ in range(3):
                amounts = some_fill(chance, many)
                mosts = tuple(least_of(rows, amounts) for rows in tariffs)
                self.assertEqual(door_each(module, amounts), mosts)
                weights = some_weights(chance, len(tariffs))
                self.assertEqual(plain(door_most(module, weights, amounts)), summed(mosts, weights))

    def test_small_ones(self):
        # Where corners can be gone through: right, with the tariffs trimmed as door tariffs.
        chance = Random(112)
        for _ in range(60):
            many = chance.randint(0, 2)
            tariffs = tuple(some_tariff(chance, many, rows=2) for _ in range(chance.randint(1, 2)))
            module = layers_of(many, tariffs)
            if module[0][0] <= 8:
                self.assertIs(is_right_module(module), True)
                self.assertEqual(door_tariffs(module), tuple(trimmed(rows) for rows in tariffs))
                self.assertIs(has_twin(module), True)

    def test_wrong(self):
        good = (((HALF,),),)
        for many, tariffs, word in (
                (-1, good, "many"), (True, good, "many"), (None, None, "many"), ("1", good, "many"), (1, (), "tariffs"),
                (1, [((HALF,),)], "tariffs"), (1, ((HALF,),), "tariffs"), (2, good, "tariffs"), (0, good, "tariffs"),
                (1, good + (None,), "tariffs"), (1, good + (((HALF, HALF),),), "tariffs"), (1, None, "tariffs"),
                (1, (((TWO,), (ONE,)),), "tariffs"), (1, (((ONE,), (ONE,)),), "tariffs"), (1, (([ONE],),), "tariffs")):
            with self.assertRaises(NotUsable) as caught:
                layers_of(many, tariffs)
            self.assertEqual(fields(caught.exception), (word, -1))


class JoinerTest(unittest.TestCase):
    def test_joiners(self):
        self.assertEqual(joiner_of((2,)), ((2, (((1, 0), (0, 2)),)), (0,), (1,)))
        self.assertEqual(joiner_of((0, 3, 0)), ((4, (((0, 1, 0, 0), (0, 0, 0, 3)),)), (0, 1, 2), (3,)))
        self.assertEqual(joiner_of((1, 0, 5))[0][1], (((1, 0, 0, 0), (0, 0, 0, 1)), ((0, 0, 1, 0), (0, 0, 0, 5))))
        chance = Random(113)
        for _ in range(20):
            weights = some_weights(chance, chance.randint(1, 3))
            module = joiner_of(weights)
            self.assertIs(is_module(module), True)
            self.assertIs(is_right_module(module), True)
            amounts = some_fill(chance, len(weights))
            self.assertEqual(fraction(door_each(module, amounts)[0]), sum(
                amount * weight for amount, weight in zip(fractions(amounts), weights)))

    def test_wrong(self):
        for weights in ((), (0,), (0, 0, 0), (1, -1), (1, True), [1], None, 1, ((1, 1),), "1", (1, None), (HALF,)):
            with self.assertRaises(NotUsable) as caught:
                joiner_of(weights)
            self.assertEqual(fields(caught.exception), ("weights", -1))


class TwinsTest(unittest.TestCase):
    def parted(self, module):
        """Whether there is a right twin: by NoTwin if not, and by the sums at the doors."""
        try:
            twin = twin_of(module)
        except NoTwin as error:
            self.assertIsInstance(error, HouseError)
            self.assertIs(has_twin(module), False)
            amounts, weights = error.amounts, error.weights
            # door_most refuses what are no amounts and no weights.
            most = plain(door_most(module, weights, amounts))
            whole = summed(door_each(module, amounts), weights)
            self.assertNotEqual(most, whole)
            self.assertTrue(whole is None or most < whole)
            return False
        self.assertIs(has_twin(module), True)
        self.assertEqual(twin, layers_of(len(module[1]), door_tariffs(module)))
        return True

    def test_document(self):
        self.assertIs(has_twin(SPLIT), False)
        self.assertEqual(twin_of(FORKED), layers_of(1, (((HALF,),),)))
        self.assertIs(self.parted(SPLIT), False)

    def test_edges(self):
        for module in (FORKED, TOOLED, (TOOL, (0,), (2,)), (BARE, (), (1, 0)), (BARE, (1,), (0,)), (SPRING, (), (0,)),
                       ((3, ()), (0,), (1, 2)), BOTH):
            self.assertIs(self.parted(module), True)
        # What can be had without end at both doors can be had at both at once.
        well = ((3, (((1, 0, 0), (1, 1, 0)), ((1, 0, 0), (1, 0, 1)))), (0,), (1, 2))
        self.assertIs(self.parted(well), True)
        self.assertEqual(door_each(well, (HALF,)), (ENDLESS, ENDLESS))
        # Endless at one door, and what the other one has is taken from the in.
        self.assertIs(self.parted(((3, (((1, 0, 0), (0, 1, 0)), ((0, 0, 0), (0, 0, 1)))), (0,), (1, 2))), True)
        # The tool is kept by one door, but used up by the other one: just a grain of it is needed.
        egg = ((4, (((1, 1, 0, 0), (0, 1, 1, 0)), ((0, 1, 0, 0), (0, 0, 0, 1)))), (0, 1), (2, 3))
        self.assertIs(is_right_module(egg), False)
        self.assertIs(self.parted(egg), True)
        # Two doors take of one inner ware, which two ins become; a third door is on its own.
        inner = ((7, (((1, 0, 0, 0, 0, 0, 0), (0, 0, 0, 2, 0, 0, 1)), ((0, 1, 0, 0, 0, 0, 0), (0, 0, 0, 1, 0, 0, 0)),
                      ((0, 0, 0, 1, 0, 0, 0), (0, 0, 0, 0, 1, 0, 0)), ((0, 0, 0, 1, 0, 0, 0), (0, 0, 0, 0, 0, 3, 0)))),
                 (0, 1), (4, 5, 6))
        self.assertIs(self.parted(inner), False)

    def test_all(self):
        chance = Random(114)
        counts = [0, 0]
        one = wrong_twins = 0
        for module in (*rich_modules(60, 114, outs=(2, 3), part=0.3), *rich_modules(60, 115, outs=(1, 1)),
                       *forking_modules(90, 118)):
            twin = self.parted(module)
            counts[twin] += 1
            if len(module[2]) == 1:
                one += 1
                self.assertIs(twin, True)
            if is_right_module(module):
                self.assertIs(twin, True)
            elif twin:
                wrong_twins += 1
            if twin:
                made = twin_of(module)
                for _ in range(4):
                    amounts = some_fill(chance, len(module[1]))
                    weights = some_weights(chance, len(module[2]))
                    most = door_most(module, weights, amounts)
                    self.assertEqual(plain(most), summed(door_each(module, amounts), weights))
                    self.assertEqual(most, door_most(made, weights, amounts))
        self.assertGreater(min(counts), 15)
        self.assertGreater(min(one, wrong_twins), 20)

    def test_limits(self):
        for seed in range(6):
            size, deeds = limit_book(seed)
            book = (size, tuple((take, (0, 0) + give[2:]) for take, give in deeds))
            self.parted((book, (1, 0), (6, 5)))
        counts = [0, 0]
        for module in forking_modules(25, 116, ins=(2, 3), inner=(2, 2), outs=(2, 2), deeds=(8, 8), top=100):
            counts[self.parted(module)] += 1
        self.assertGreater(min(counts), 0)

    def test_row_tells(self):
        # What the document says of rows: each door tariff tells the most at its door.
        for module in rich_modules(20, 117, outs=(2, 2)):
            for rows, ware in zip(door_tariffs(module), range(2)):
                amounts = (Fraction(2),) * len(module[1])
                told = [tells(row, amounts) for row in rows]
                least = min((one for one in told if one is not None), default=None)
                self.assertEqual(plain(door_each(module, (TWO,) * len(module[1]))[ware]), least)


if __name__ == "__main__":
    unittest.main()
