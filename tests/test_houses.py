"""Points 73 to 76: wirings and houses, houses flat, ways through wirings, breakings."""

import unittest
from itertools import permutations, product
from random import Random

from stillhad.breakings import breaking_of, lets_breaking
from stillhad.doormosts import door_most
from stillhad.endlesspapers import endless_paper, lets_endless
from stillhad.errors import HouseError, InvalidPaper, NotUsable, Ringed
from stillhad.fluxpapers import flux_paper, lets_flux
from stillhad.houses import flat_of, house_fill, house_of, house_wish, joined_house, with_module
from stillhad.layers import joiner_of
from stillhad.modulechecker import is_module
from stillhad.modules import doors_turned
from stillhad.mosts import most_of
from stillhad.pricepapers import lets_price, price_paper
from stillhad.rightmodules import is_right_module
from stillhad.running import end_of
from stillhad.ways import heard_seats, is_safe, ring_seats, seat_order, shared_wires, way_out
from stillhad.wiringchecker import is_house, is_wiring, lets_wiring
from tests.helpers import (
    BOTH, ENDLESS, FORKED, HALF, LOOP, NOUGHT, ODD, ONE, SPLIT, SPRING, TOOLED, TWO, can_be_done, ends_of, fields,
    forking_modules, plain, rich_modules, some_fill, some_weights, some_wirings, summed)

# Wire 0 comes in and is taken by seat 0, which leads to seat 2, and by seat 1, which nobody hears.
DEAF = (4, (((0,), (1,)), ((0,), (2,)), ((1,), (3,))), (0,), (3,))
# Both seats, one behind the other, lead to the out; nothing is shared.
CHAIN = (4, (((0,), (1, 2)), ((1, 2), (3,))), (0,), (3,))
# Two seats in a ring, a third one behind them.
RING = (4, (((0, 2), (1,)), ((1,), (2,)), ((0,), (3,))), (0,), (3,))


class WiringTest(unittest.TestCase):
    def refused(self, thing, word, at):
        with self.assertRaises(InvalidPaper) as caught:
            lets_wiring(thing)
        self.assertEqual(fields(caught.exception), (word, at), thing)
        self.assertIs(is_wiring(thing), False)

    def test_good(self):
        for thing, seats in ((LOOP, 1), (DEAF, 3), (CHAIN, 2), (RING, 3), ((1, (), (), (0,)), 0),
                             ((3, (), (0, 2), (1,)), 0), ((2, (((), (0, 0)),), (), (1, 0)), 1),
                             ((2, (((0, 0, 0), (1,)),), (), (1,)), 1), ((2, (((0,), (0,)),), (), (1,)), 1)):
            self.assertEqual(lets_wiring(thing), seats)
            self.assertIs(is_wiring(thing), True)

    def test_faults(self):
        for thing in ODD + (LOOP[:3], LOOP + ((),), [*LOOP], (LOOP,)):
            self.refused(thing, "shape", -1)
        for wires in (0, -1, True, None, "3", (3,)):
            self.refused((wires,) + LOOP[1:], "wires", -1)
            self.refused((wires, None, None, None), "wires", -1)
        for seats in (None, [], 0, "", {}):
            self.refused((3, seats, (0,), (2,)), "seats", -1)
            self.refused((3, seats, None, ()), "seats", -1)
        good = ((0, 1), (1,))
        for seat in (None, (), good + ((),), [*good], ((0, 1), ()), ((3,), (1,)), ((0,), (3,)), ((-1,), (1,)),
                     ((0,), (True,)), ([0], (1,)), ((0,), [1]), ((None,), (1,)), ((0,), ("1",)), (0, 1), ((0,),)):
            self.refused((3, (seat,), (0,), (2,)), "seat", 0)
            self.refused((3, (good, seat, None), None, ()), "seat", 1)
        for ins in (None, [0], 0, "0", {}):
            self.refused((3, (good,), ins, (2,)), "ins", -1)
            self.refused((3, (good,), ins, None), "ins", -1)
        for ins, at in (((3,), 0), ((-1,), 0), ((True,), 0), ((0, 0), 1), ((1,), 0), ((0, 1), 1), ((0, None), 1),
                        ((0, "2"), 1), (((0,),), 0), ((0, 2, 0), 2)):
            self.refused((3, (good,), ins, (2,)), "in", at)
            self.refused((3, (good,), ins, None), "in", at)
        for outs in (None, (), [2], 2, "2"):
            self.refused((3, (good,), (0,), outs), "outs", -1)
        for outs, at in (((3,), 0), ((True,), 0), ((2, 2), 1), ((0,), 0), ((2, 1), 1), ((2, None), 1), ((-1,), 0)):
            self.refused((3, (good,), (), outs), "out", at)
        # Among the ins, though no seat takes it.
        self.refused((3, (good,), (2,), (2,)), "out", 0)

    def test_all(self):
        chance = Random(140)
        counts = [0, 0]
        for _ in range(3000):
            wires = chance.randint(1, 4)
            seats = tuple(
                (tuple(chance.randrange(wires) for _ in range(chance.randint(0, 2))),
                 tuple(chance.randrange(wires) for _ in range(chance.randint(1, 2)))) for _ in range(chance.randint(0, 2)))
            ins = tuple(chance.sample(range(wires), chance.randint(0, min(2, wires))))
            outs = tuple(chance.sample(range(wires), chance.randint(1, min(2, wires))))
            good = not set(ins) & set(outs) and all(
                not set(ins) & set(given) and not set(outs) & set(taken) for taken, given in seats)
            self.assertIs(is_wiring((wires, seats, ins, outs)), good)
            counts[good] += 1
        self.assertGreater(min(counts), 300)

    def test_houses(self):
        mixer = joiner_of((1, 1))
        house = (CHAIN, (SPLIT, mixer))
        self.assertIs(is_house(house), True)
        self.assertIs(is_house(((1, (), (), (0,)), ())), True)
        for thing in ODD + (house + ((),), [*house], (CHAIN,), (CHAIN, [SPLIT, mixer]), (CHAIN, (SPLIT,)),
                            (CHAIN, (SPLIT, mixer, mixer)), (CHAIN, (mixer, SPLIT)), (CHAIN, (SPLIT, FORKED)),
                            (CHAIN, (SPLIT, None)), (CHAIN[:3], (SPLIT, mixer)), (None, ()), (CHAIN, None),
                            (CHAIN, (SPLIT, (mixer[0], (0, 1), (0,)))), ((4, CHAIN[1], (0,), ()), (SPLIT, mixer))):
            self.assertIs(is_house(thing), False)


def flat_plainly(house):
    """The house flat, word by word."""
    (wires, seats, ins, outs), modules = house
    names = [("wire", wire) for wire in range(wires)]
    for k, (book, own_ins, own_outs) in enumerate(modules):
        names += [(k, ware) for ware in range(book[0]) if ware not in own_ins and ware not in own_outs]
    deeds = []
    for k, ((in_wires, out_wires), (book, own_ins, own_outs)) in enumerate(zip(seats, modules)):
        for deed in book[1]:
            sides = []
            for numbers in deed:
                at = dict.fromkeys(names, 0)
                for ware, number in enumerate(numbers):
                    name = (k, ware)
                    if ware in own_ins:
                        name = ("wire", in_wires[own_ins.index(ware)])
                    elif ware in own_outs:
                        name = ("wire", out_wires[own_outs.index(ware)])
                    at[name] += number
                sides.append(tuple(at[name] for name in names))
            deeds.append(tuple(sides))
    return ((len(names), tuple(deeds)), ins, outs)


def some_houses(many, seed, **bounds):
    """Houses with modules of all kinds."""
    chance = Random(seed)
    modules = {}
    for module in (*rich_modules(400, seed, deeds=(1, 3), inner=(0, 2)),
                   *forking_modules(400, seed, ins=(0, 3), inner=(1, 2), outs=(1, 3), deeds=(1, 3))):
        modules.setdefault((len(module[1]), len(module[2])), []).append(module)
    for wiring in some_wirings(many, seed, **bounds):
        yield (wiring, tuple(chance.choice(modules[len(ins), len(outs)]) for ins, outs in wiring[1]))


class HousesTest(unittest.TestCase):
    def refused(self, told, call, *given):
        with self.assertRaises(NotUsable) as caught:
            call(*given)
        self.assertEqual(fields(caught.exception), told, given)

    def test_edges(self):
        empty = house_of((3, (), (0,), (2,)))
        self.assertEqual(empty, ((3, (), (0,), (2,)), ()))
        self.assertEqual(flat_of(empty), ((3, ()), (0,), (2,)))
        mixer = joiner_of((2, 3))
        chain = house_of(CHAIN, SPLIT, mixer)
        self.assertEqual(chain, (CHAIN, (SPLIT, mixer)))
        self.assertEqual(flat_of(chain), ((4, (
            ((1, 0, 0, 0), (0, 1, 0, 0)), ((1, 0, 0, 0), (0, 0, 1, 0)), ((0, 1, 0, 0), (0, 0, 0, 2)),
            ((0, 0, 1, 0), (0, 0, 0, 3)))), (0,), (3,)))
        # The inner wares stand behind the wires, seat by seat, ascending; ins and outs in their own sequence.
        wiring = (3, (((1, 0), (2,)), ((0,), (2,))), (1, 0), (2,))
        turned = doors_turned(TOOLED, (1, 0), (0,))
        flat = flat_of(house_of(wiring, turned, FORKED))
        self.assertEqual(flat, ((6, (
            ((0, 1, 0, 0, 0, 0), (0, 0, 0, 1, 0, 0)), ((1, 0, 0, 1, 0, 0), (0, 0, 1, 1, 0, 0)),
            ((1, 0, 0, 0, 0, 0), (0, 0, 0, 0, 1, 0)), ((1, 0, 0, 0, 0, 0), (0, 0, 0, 0, 0, 1)),
            ((0, 0, 0, 0, 1, 1), (0, 0, 1, 0, 0, 0)))), (1, 0), (2,)))
        # Amounts put to one wire are added, taken or given; a wire may be both.
        both = ((5, (((1, 2, 0, 0, 4), (0, 0, 3, 5, 4)),)), (0, 1), (2, 3))
        self.assertEqual(flat_of(house_of((3, (((0, 0), (1, 1)),), (0,), (2,)), both)),
                         ((4, (((3, 0, 0, 4), (0, 8, 0, 4)),)), (0,), (2,)))
        self.assertEqual(flat_of(house_of((3, (((0, 1), (1, 2)),), (0,), (2,)), both)),
                         ((4, (((1, 2, 0, 4), (0, 3, 5, 4)),)), (0,), (2,)))

    def test_fills(self):
        house = house_of((3, (((0,), (1,)), ((1,), (2,))), (0,), (2,)), FORKED, FORKED)
        self.assertEqual(house_fill(house, (ONE, HALF, TWO)), (ONE, HALF, TWO) + (NOUGHT,) * 4)
        self.assertEqual(house_wish(house, (7,)), (0, 0, 7, 0, 0, 0, 0))
        outs = house_of((3, (((0,), (2, 1)),), (0,), (1, 2)), SPLIT)
        self.assertEqual(house_wish(outs, (7, 0)), (0, 7, 0))
        self.assertEqual(with_module(house, 1, ((2, ()), (0,), (1,))), (house[0], (FORKED, ((2, ()), (0,), (1,)))))
        self.assertEqual(with_module(house, 0, joiner_of((3,))), (house[0], (joiner_of((3,)), FORKED)))

    def test_all(self):
        chance = Random(141)
        for house in some_houses(250, 141):
            wiring, modules = house
            self.assertIs(is_house(house), True)
            self.assertEqual(house_of(wiring, *modules), house)
            flat = flat_of(house)
            self.assertEqual(flat, flat_plainly(house))
            self.assertIs(is_module(flat), True)
            fill = some_fill(chance, wiring[0])
            weights = some_weights(chance, len(wiring[3]))
            self.assertEqual(house_fill(house, fill), fill + (NOUGHT,) * (flat[0][0] - wiring[0]))
            wish = [0] * flat[0][0]
            for wire, weight in zip(wiring[3], weights):
                wish[wire] = weight
            self.assertEqual(house_wish(house, weights), tuple(wish))

    def test_large(self):
        # Eighteen wares and twenty-four deeds, flat.
        chance = Random(149)
        mosts = set()
        for seed in range(6):
            seats = (((0, 1), (2, 3)), ((2, 0), (3, 4)), ((3,), (4, 1 if seed % 2 else 5)), ((4, 4, 2), (5,)))
            wiring = (6, seats, (0,), (5,))
            modules = []
            for k, (in_wires, out_wires) in enumerate(seats):
                bounds = {"ins": (len(in_wires),) * 2, "inner": (3, 3), "outs": (len(out_wires),) * 2, "deeds": (6, 6)}
                modules.append(list(forking_modules(1, 10 * seed + k, top=3 if seed < 3 else 10 ** 6, **bounds))[0])
            house = house_of(wiring, *modules)
            book, ins, outs = flat_of(house)
            self.assertEqual((book[0], len(book[1])), (18, 24))
            self.assertIs(is_module((book, ins, outs)), True)
            fill = house_fill(house, some_fill(chance, 6))
            wish = house_wish(house, (2,))
            most = most_of(book, wish, fill)
            if most == ENDLESS:
                self.assertNotEqual(lets_endless(book, wish, fill, endless_paper(book, wish, fill)), NOUGHT)
            else:
                self.assertEqual(lets_price(book, wish, fill, price_paper(book, wish, fill)), most)
                self.assertEqual(lets_flux(book, wish, fill, flux_paper(book, wish, fill)), most)
            mosts.add(most)
        self.assertGreater(len(mosts), 2)

    def test_joined(self):
        wiring, modules = joined_house(SPLIT, (2, 0))
        self.assertEqual(wiring, (4, (((0,), (1, 2)), ((1, 2), (3,))), (0,), (3,)))
        self.assertEqual(modules, (SPLIT, joiner_of((2, 0))))
        self.assertEqual(joined_house((SPRING, (), (0,)), (1,)),
                         ((2, (((), (0,)), ((0,), (1,))), (), (1,)), ((SPRING, (), (0,)), joiner_of((1,)))))
        chance = Random(142)
        for module in (*rich_modules(40, 142), *forking_modules(40, 143)):
            weights = some_weights(chance, len(module[2]))
            house = joined_house(module, weights)
            self.assertIs(is_house(house), True)
            amounts = some_fill(chance, len(module[1]))
            flat = flat_of(house)
            fill = house_fill(house, amounts + (NOUGHT,) * (house[0][0] - len(amounts)))
            self.assertEqual(most_of(flat[0], house_wish(house, (1,)), fill), door_most(module, weights, amounts))

    def test_wrong(self):
        mixer = joiner_of((1, 1))
        self.refused(("modules", -1), house_of, CHAIN)
        self.refused(("modules", -1), house_of, CHAIN, SPLIT)
        self.refused(("modules", -1), house_of, CHAIN, None, None, None)
        self.refused(("modules", -1), house_of, (1, (), (), (0,)), SPLIT)
        for bad in (None, FORKED, SPLIT, (), [*mixer], (mixer[0], (0, 1), ()), (mixer[0], (0, 0), (2,)), 0, BOTH):
            self.refused(("modules", 1), house_of, CHAIN, SPLIT, bad)
            if bad not in (SPLIT, BOTH):
                self.refused(("modules", 0), house_of, CHAIN, bad, None)
        house = house_of(CHAIN, SPLIT, mixer)
        for seat in (2, -1, True, None, "0", (0,)):
            self.refused(("seat", -1), with_module, house, seat, None)
        for seat, bad in ((0, mixer), (1, SPLIT), (0, None), (0, FORKED), (1, (mixer[0], (0, 1), (2, 2))), (0, [*SPLIT])):
            self.refused(("module", -1), with_module, house, seat, bad)
        for fill in (None, (), (ONE,) * 3, (ONE,) * 5, [ONE] * 4, (ONE, ONE, ONE, ENDLESS), (ONE, ONE, ONE, 1)):
            self.refused(("fill", -1), house_fill, house, fill)
        for weights in (None, (), (0,), (1, 1), (True,), [1], (-1,), 1, (ONE,)):
            self.refused(("weights", -1), house_wish, house, weights)
        for weights in (None, (), (0, 0), (1,), (1, 1, 1), (True, 1), [1, 1], (1, -1)):
            self.refused(("weights", -1), joined_house, SPLIT, weights)


class WaysTest(unittest.TestCase):
    def test_edges(self):
        self.assertEqual(shared_wires(LOOP), ())
        self.assertEqual((shared_wires(DEAF), heard_seats(DEAF), is_safe(DEAF)), ((0,), (0, 2), False))
        self.assertEqual((way_out(DEAF, 0), way_out(DEAF, 1), way_out(DEAF, 2)), ((0, 2), None, (2,)))
        self.assertEqual((shared_wires(CHAIN), heard_seats(CHAIN), is_safe(CHAIN)), ((), (0, 1), True))
        self.assertEqual((ring_seats(CHAIN), seat_order(CHAIN)), ((), (0, 1)))
        self.assertEqual((ring_seats(LOOP), ring_seats(RING), heard_seats(RING)), ((0,), (0, 1), (2,)))
        # A wire twice in one seat's in-wires is shared; where nobody hears the seat, the wiring is safe.
        twice = (3, (((0, 0), (1,)),), (0,), (2,))
        self.assertEqual((shared_wires(twice), heard_seats(twice), is_safe(twice)), ((0,), (), True))
        self.assertEqual((is_safe((2, (((0, 0), (1,)),), (0,), (1,)))), False)
        # Both seats that share are deaf, or one of them is.
        self.assertIs(is_safe((4, (((0,), (1,)), ((0,), (1,)), ((2,), (3,))), (0, 2), (3,))), True)
        none = (2, (), (0,), (1,))
        self.assertEqual((shared_wires(none), heard_seats(none), is_safe(none), ring_seats(none), seat_order(none)),
                         ((), (), True, (), ()))
        # A wire that is the out-wire of many seats is not shared.
        self.assertEqual(shared_wires((3, (((0,), (2,)), ((1,), (2, 2))), (0, 1), (2,))), ())
        self.assertEqual(seat_order((4, (((2,), (3,)), ((1,), (2,)), ((0,), (1,))), (0,), (3,))), (2, 1, 0))
        self.assertIs(is_safe(RING), False)
        self.assertIs(is_safe((3, (((0, 1), (1,)), ((), (2,))), (0,), (2,))), True)

    def leads(self, wiring, seat):
        return [k for k, other in enumerate(wiring[1]) if set(wiring[1][seat][1]) & set(other[0])]

    def test_all(self):
        rings = loose = 0
        for wiring in some_wirings(500, 144):
            wires, seats, ins, outs = wiring
            many = range(len(seats))
            taken = [wire for seat in seats for wire in seat[0]]
            shared = tuple(sorted({wire for wire in taken if taken.count(wire) > 1}))
            self.assertEqual(shared_wires(wiring), shared)
            # All ways of different seats, by trying them all.
            ways = [way for length in range(1, len(seats) + 1) for way in permutations(many, length)
                    if all(after in self.leads(wiring, seat) for seat, after in zip(way, way[1:]))]
            outward = [way for way in ways if set(seats[way[-1]][1]) & set(outs)]
            heard = tuple(sorted({way[0] for way in outward}))
            self.assertEqual(heard_seats(wiring), heard)
            for seat in many:
                way = way_out(wiring, seat)
                own = [one for one in outward if one[0] == seat]
                if own:
                    self.assertIn(way, own)
                    self.assertEqual(len(way), min(map(len, own)))
                else:
                    self.assertIsNone(way)
            self.assertIs(is_safe(wiring), not any(set(seats[seat][0]) & set(shared) for seat in heard))
            ringed = tuple(sorted({way[0] for way in ways if way[0] in self.leads(wiring, way[-1])}))
            self.assertEqual(ring_seats(wiring), ringed)
            if ringed:
                rings += 1
                with self.assertRaises(Ringed) as caught:
                    seat_order(wiring)
                self.assertEqual(fields(caught.exception), ringed[:1])
                self.assertIsInstance(caught.exception, HouseError)
            else:
                loose += len(seats) > 1
                order = seat_order(wiring)
                self.assertEqual(sorted(order), list(many))
                for k, seat in enumerate(order):
                    self.assertFalse(any(seat in self.leads(wiring, other) for other in order[k:]))
        self.assertGreater(min(rings, loose), 40)

    def test_wrong(self):
        for seat in (3, -1, True, None, "0", (0,), 10 ** 30):
            with self.assertRaises(NotUsable) as caught:
                way_out(DEAF, seat)
            self.assertEqual(fields(caught.exception), ("seat", -1))


class BreakingsTest(unittest.TestCase):
    def refused(self, thing, word, at, wiring=DEAF):
        with self.assertRaises(InvalidPaper) as caught:
            lets_breaking(wiring, thing)
        self.assertEqual(fields(caught.exception), (word, at), thing)

    def broken(self, wiring):
        """Whether the wiring is broken, shown by doing the run in the house flat."""
        thing = breaking_of(wiring)
        if thing is None:
            return False
        before = lets_breaking(wiring, thing)
        modules, wire, run = thing
        house = house_of(wiring, *modules)
        self.assertTrue(all(is_right_module(module) for module in modules))
        flat = flat_of(house)
        begin = house_fill(house, tuple(ONE if own == wire else NOUGHT for own in range(wiring[0])))
        wish = house_wish(house, (1,) * len(wiring[3]))
        self.assertEqual(most_of(flat[0], wish, begin), before)
        self.assertNotEqual(before, NOUGHT)
        can, end = can_be_done(flat[0], begin, run)
        self.assertTrue(can)
        self.assertEqual(end, end_of(flat[0], begin, run))
        self.assertEqual(most_of(flat[0], wish, end), NOUGHT)
        return True

    def test_edges(self):
        for wiring in (LOOP, CHAIN, (1, (), (), (0,)), (3, (((0, 0), (1,)),), (0,), (2,))):
            self.assertIsNone(breaking_of(wiring))
        for wiring in (DEAF, RING, (2, (((0, 0), (1,)),), (0,), (1,)), (2, (((0, 0, 0), (1, 1)),), (), (1,)),
                       # The other seat with the wire leads to the seat that is heard, and from it.
                       (4, (((0, 1), (2,)), ((0, 2), (1, 3))), (0,), (3,)),
                       # The shortest way out goes through three seats; the wire is shared with a deaf one.
                       (6, (((0,), (1,)), ((1,), (2,)), ((2,), (3,)), ((0,), (4,))), (0,), (3,)),
                       # The wire itself is given by a seat on the way.
                       (4, (((0,), (1,)), ((1,), (0, 2)), ((0,), (3,))), (), (2,))):
            self.assertTrue(self.broken(wiring))

    def test_all(self):
        counts = [0, 0]
        for wiring in some_wirings(300, 145):
            broken = self.broken(wiring)
            self.assertIs(is_safe(wiring), not broken)
            counts[broken] += 1
        self.assertGreater(min(counts), 40)

    def test_each_small_one(self):
        # All wirings of two seats over three wires, with few wires at each side.
        sides = [()] + [(wire,) for wire in range(3)] + [(0, 1), (0, 0), (1, 2)]
        count = 0
        for seats in product(product(sides, sides[1:]), repeat=2):
            for ins in ((), (0,)):
                wiring = (3, seats, ins, (2,))
                if is_wiring(wiring):
                    self.assertIs(self.broken(wiring), not is_safe(wiring))
                    count += 1
        self.assertGreater(count, 300)

    def test_faults(self):
        burner = ((2, (((1, 0), (0, 0)),)), (0,), (1,))
        passer = ((2, (((1, 0), (0, 1)),)), (0,), (1,))
        wrong = ((2, (((1, 0), (0, 1)), ((1, 0), (0, 2)))), (0,), (1,))
        run = ((1, ((1, ONE),)),)
        good = ((passer, burner, passer), 0, run)
        self.assertEqual(lets_breaking(DEAF, good), ONE)
        doubled = ((2, (((1, 0), (0, 2)),)), (0,), (1,))
        self.assertEqual(lets_breaking(DEAF, ((doubled, burner, doubled), 0, run)), (4, 1))
        for thing in ODD + (good[:2], good + ((),), [*good], (good,)):
            self.refused(thing, "shape", -1)
        for modules in (None, (), good[0][:2], good[0] + (passer,), [*good[0]], 0):
            self.refused((modules,) + good[1:], "modules", -1)
            self.refused((modules, None, None), "modules", -1)
        for bad in (None, SPLIT, (), [*passer], (passer[0], (0,), ()), wrong, (passer[0], (0,), (0,)), TOOLED, 0):
            self.refused(((bad, None, None),) + good[1:], "modules", 0)
            self.refused(((passer, bad, None), None, None), "modules", 1)
            self.refused(((passer, burner, bad), 4, None), "modules", 2)
        for wire in (4, -1, True, None, "0", (0,)):
            self.refused((good[0], wire, run), "wire", -1)
            self.refused((good[0], wire, None), "wire", -1)
        for bad in (None, [], ((1, ((3, ONE),)),), ((1, ((1, TWO),)),), ((2, ((1, ONE),)),), ((1, ((2, ONE),)),), 0, "-",
                    ((1, ()),), ((0, ((1, ONE),)),)):
            self.refused((good[0], 0, bad), "run", -1)
        # From wire 2 nothing can be had.
        self.refused((good[0], 2, ()), "before", -1)
        self.refused(((burner, burner, passer), 0, run), "before", -1)
        self.refused((good[0], 2, None), "run", -1)
        for bad in ((), ((1, ((0, ONE),)),), ((1, ((1, HALF),)),), ((1, ((0, ONE), (2, ONE))),)):
            self.refused((good[0], 0, bad), "behind", -1)
        # Behind the run the most is endless, as it was before.
        spring = ((1, (((0,), (1,)),)), (), (0,))
        self.refused(((spring,), 0, ()), "behind", -1, (1, (((), (0,)),), (), (0,)))
        endless = ((3, (((1, 0, 0), (1, 1, 0)), ((0, 0, 0), (0, 0, 0)))), (0,), (1,))
        self.refused(((endless, burner, passer), 0, run), "modules", 0)

    def test_endless_before(self):
        # An inner ware gives without end, once it is there: so all is endless until what it comes from is burnt.
        grow = ((3, (((1, 0, 0), (0, 1, 0)), ((0, 1, 0), (0, 1, 1)))), (0,), (2,))
        self.assertIs(is_right_module(grow), True)
        burner = ((2, (((1, 0), (0, 0)),)), (0,), (1,))
        wiring = (3, (((0,), (1,)), ((0,), (2,))), (0,), (1,))
        thing = ((grow, burner), 0, ((1, ((2, ONE),)),))
        self.assertEqual(lets_breaking(wiring, thing), ENDLESS)
        self.refused(((grow, burner), 0, ((1, ((0, (1, 9)), (2, (8, 9)))),)), "behind", -1, wiring)


class RightHousesTest(unittest.TestCase):
    """What the document promises of houses whose wires are not shared (G12)."""

    def test_right(self):
        chance = Random(146)
        right = {}
        for module in (*rich_modules(300, 146, inner=(0, 1), deeds=(1, 2)),
                       *forking_modules(300, 147, ins=(0, 3), inner=(1, 1), outs=(1, 3), deeds=(1, 2))):
            some = right.setdefault((len(module[1]), len(module[2])), [])
            if len(some) < 12 and is_right_module(module):
                some.append(module)
        count = ringed = 0
        for wiring in some_wirings(1500, 148, wires=5, seats=3, side=2):
            if not wiring[1] or not is_safe(wiring):
                continue
            modules = tuple(chance.choice(right[len(ins), len(outs)]) for ins, outs in wiring[1])
            flat = flat_of((wiring, modules))
            taken = flat[0][0] - len(ends_of(flat[0]))
            if flat[0][0] > 7 or taken > 5 or len(flat[0][1]) > 6:
                continue
            self.assertIs(is_right_module(flat), True)
            count += 1
            ringed += ring_seats(wiring) != ()
            amounts = some_fill(chance, len(flat[1]))
            weights = some_weights(chance, len(flat[2]))
            each = [door_most(flat, tuple(int(k == door) for k in range(len(flat[2]))), amounts)
                    for door in range(len(flat[2]))]
            self.assertEqual(plain(door_most(flat, weights, amounts)), summed(each, weights))
        self.assertGreater(count, 60)
        self.assertGreater(ringed, 15)


if __name__ == "__main__":
    unittest.main()
