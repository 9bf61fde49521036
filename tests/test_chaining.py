"""Points 80 to 82: chained tariffs, swaps, lines of wirings, House, and what follows."""

import unittest
from random import Random

from stillhad.alikes import alike_modules
from stillhad.breakings import breaking_of
from stillhad.chaining import chained_tariffs
from stillhad.doormosts import door_each
from stillhad.doortariffs import door_tariffs
from stillhad.errors import HouseError, InvalidRow, InvalidText, NotUsable, Ringed, Shared
from stillhad.houseclasses import House
from stillhad.houses import flat_of, house_fill, house_of, house_wish, joined_house, with_module
from stillhad.housetexts import read_wiring, wiring_line
from stillhad.layers import joiner_of
from stillhad.linking import linked_most
from stillhad.moduleclasses import Module
from stillhad.mosts import most_of
from stillhad.quotients import less
from stillhad.swaps import can_swap, parting_houses
from stillhad.tariffkinds import is_tariff, least_of
from stillhad.trimming import trimmed
from stillhad.twins import has_twin
from stillhad.ways import is_safe, ring_seats, shared_wires
from stillhad.wiringchecker import is_house, is_wiring
from tests.helpers import (
    BOTH, ENDLESS, FORKED, GIVES, HALF, LOOP, NOUGHT, ODD, ONE, SPLIT, TWO, fields, forking_modules, fraction,
    plain, rich_modules, some_fill, some_weights, some_wirings)

CHAIN = (4, (((0,), (1, 2)), ((1, 2), (3,))), (0,), (3,))
MIXER = joiner_of((1, 1))


def straight_wirings(many, seed, wires=6, seats=4):
    """Wirings without shared wires and rings: what a seat takes stands ahead of what it gives."""
    chance = Random(seed)
    while many:
        size = chance.randint(2, wires)
        order = chance.sample(range(size), size)
        taken = []
        made = []
        for _ in range(chance.randint(1, seats)):
            cut = chance.randint(0, size - 1)
            free = [wire for wire in order[:cut] if wire not in taken]
            in_wires = chance.sample(free, min(len(free), chance.randint(0, 3)))
            taken += in_wires
            made.append((tuple(in_wires), tuple(chance.choice(order[cut:]) for _ in range(chance.randint(1, 2)))))
        outs = [wire for wire in order if wire not in taken][:3]
        ins = [wire for wire in order if wire not in outs and not any(wire in seat[1] for seat in made)][:3]
        if outs:
            many -= 1
            yield (size, tuple(chance.sample(made, len(made))), tuple(ins), tuple(outs))


def lively_tariff(chance, many):
    """A tariff over so many things, seldom empty, with few noughts."""
    prices = [NOUGHT] + [HALF, ONE, TWO, (3, 1), (2, 3)] * 2 + [ENDLESS]
    rows = {tuple(chance.choice(prices) for _ in range(many)) for _ in range(chance.randint(1, 4))}
    return tuple(sorted(rows)) if chance.random() < 0.92 else ()


def come_plainly(wiring, tariffs, amounts):
    """What comes to each out, from wire to wire, as fractions, None for endless."""
    wires, seats, ins, outs = wiring

    def told(row, come):
        result = 0
        for price, amount in zip(row, come):
            if price == NOUGHT or amount == 0:
                continue
            if price == ENDLESS or amount is None:
                return None
            result += fraction(price) * amount
        return result

    def given(seat, door):
        come = [comes(wire) for wire in seats[seat][0]]
        found = [told(row, come) for row in tariffs[seat][door]]
        return min((one for one in found if one is not None), default=None)

    def comes(wire):
        if wire in ins:
            return fraction(amounts[ins.index(wire)])
        parts = [given(k, door) for k, seat in enumerate(seats) for door, own in enumerate(seat[1]) if own == wire]
        return None if None in parts else sum(parts)

    return [comes(wire) for wire in outs]


class ChainsTest(unittest.TestCase):
    def test_edges(self):
        self.assertEqual(chained_tariffs((2, (), (0,), (1,)), ()), (((NOUGHT,),),))
        self.assertEqual(chained_tariffs((1, (), (), (0,)), ()), (((),),))
        # Two doors on one wire are added; what comes to the in-wires goes through a row each.
        both = ((((HALF,),), ((TWO,),)), (((ONE, ONE),),))
        self.assertEqual(chained_tariffs(CHAIN, both), ((((5, 2),),),))
        less_of = (both[0], (((NOUGHT, TWO), (ONE, NOUGHT)),))
        self.assertEqual(chained_tariffs(CHAIN, less_of), (((HALF,),),))
        added = (4, (((0,), (2,)), ((1,), (2, 3))), (1, 0), (2, 3))
        ones = ((((ONE,),),), (((TWO,),), ((HALF,),)))
        self.assertEqual(chained_tariffs(added, ones), (((TWO, ONE),), ((HALF, NOUGHT),)))
        # Empty tariffs are endless, but not where a row asks nothing of them.
        self.assertEqual(chained_tariffs(CHAIN, (((), ((ONE,),)), (((ONE, ONE),),))), ((),))
        self.assertEqual(chained_tariffs(CHAIN, (((), ((ONE,),)), (((NOUGHT, ONE),),))), (((ONE,),),))
        self.assertEqual(chained_tariffs(CHAIN, (((), ()), (((NOUGHT, NOUGHT),),))), (((NOUGHT,),),))
        # A row endless somewhere asks whether anything comes there.
        self.assertEqual(chained_tariffs(CHAIN, ((((NOUGHT,),), ((ONE,),)), (((ENDLESS, ONE),),))), (((ONE,),),))
        self.assertEqual(chained_tariffs(CHAIN, ((((ONE,),), ((ONE,),)), (((ENDLESS, ONE),),))), (((ENDLESS,),),))
        self.assertEqual(chained_tariffs((2, (((), (0, 1)),), (), (1, 0)), ((((),), ()),)), ((), ((),)))

    def test_all(self):
        chance = Random(160)
        deep = many = endless = 0
        for wiring in straight_wirings(300, 160):
            tariffs = tuple(tuple(lively_tariff(chance, len(seat[0])) for _ in seat[1]) for seat in wiring[1])
            chained = chained_tariffs(wiring, tariffs)
            self.assertEqual(len(chained), len(wiring[3]))
            for rows in chained:
                self.assertIs(is_tariff(len(wiring[2]), rows), True)
                self.assertEqual(trimmed(rows), rows)
                many += len(rows) > 1
            for _ in range(4):
                amounts = some_fill(chance, len(wiring[2]))
                come = come_plainly(wiring, tariffs, amounts)
                self.assertEqual([plain(least_of(rows, amounts)) for rows in chained], come)
                endless += None in come
            # The worth of what comes to the outs is the linked most.
            fill = [NOUGHT] * wiring[0]
            for wire, amount in zip(wiring[2], amounts):
                fill[wire] = amount
            weights = some_weights(chance, len(wiring[3]))
            most = plain(linked_most(wiring, tariffs, weights, tuple(fill)))
            parts = [one if one is None else one * weight for one, weight in zip(come, weights) if weight]
            self.assertEqual(most, None if None in parts else sum(parts))
            deep += len(wiring[1]) > 1
        self.assertGreater(min(deep, many, endless), 20)

    def test_twins(self):
        # With right twins the chained tariffs tell the mosts of the outs.
        chance = Random(161)
        some = {}
        for module in (*rich_modules(400, 161, inner=(0, 2), deeds=(1, 3)),
                       *forking_modules(500, 162, ins=(0, 3), inner=(1, 2), outs=(1, 3), deeds=(1, 3))):
            own = some.setdefault((len(module[1]), len(module[2])), [])
            if len(own) < 12 and has_twin(module):
                own.append((module, door_tariffs(module)))
        above = 0
        for wiring in straight_wirings(150, 163):
            self.assertEqual((shared_wires(wiring), ring_seats(wiring)), ((), ()))
            chosen = [chance.choice(some[len(ins), len(outs)]) for ins, outs in wiring[1]]
            flat = flat_of((wiring, tuple(module for module, _ in chosen)))
            chained = chained_tariffs(wiring, tuple(own for _, own in chosen))
            amounts = some_fill(chance, len(flat[1]))
            each = door_each(flat, amounts)
            self.assertEqual(each, tuple(least_of(rows, amounts) for rows in chained))
            above += any(one != NOUGHT for one in each)
        self.assertGreater(above, 30)

    def test_faults(self):
        shared = (4, (((0, 1), (2,)), ((1, 0), (2, 3))), (0, 1), (3,))
        with self.assertRaises(Shared) as caught:
            chained_tariffs(shared, ((((ONE, ONE),),), (((ONE, ONE),), ())))
        self.assertEqual(fields(caught.exception), (0,))
        self.assertIsInstance(caught.exception, HouseError)
        with self.assertRaises(Ringed) as caught:
            chained_tariffs(LOOP, GIVES)
        self.assertEqual(fields(caught.exception), (0,))
        # A shared wire is told ahead of a ring; deaf seats count, too; wrong tariffs come first.
        both = (4, (((0, 0), (1,)), ((1, 2), (2,))), (0,), (3,))
        tariffs = ((((ONE, ONE),),), (((ONE, ONE),),))
        with self.assertRaises(Shared) as caught:
            chained_tariffs(both, tariffs)
        self.assertEqual(fields(caught.exception), (0,))
        ring = (4, (((0,), (1,)), ((1, 2), (2,))), (0,), (3,))
        with self.assertRaises(Ringed) as caught:
            chained_tariffs(ring, ((((ONE,),),), (((ONE, ONE),),)))
        self.assertEqual(fields(caught.exception), (1,))
        for wrong in (None, (), tariffs[:1], [*tariffs], (((),), ((),)) + ((),), ((((ONE,),),), tariffs[1])):
            with self.assertRaises(NotUsable) as caught:
                chained_tariffs(both, wrong)
            self.assertEqual(fields(caught.exception), ("tariffs", -1))


class SwapsTest(unittest.TestCase):
    def test_edges(self):
        house = house_of(CHAIN, SPLIT, MIXER)
        doubled = ((3, SPLIT[0][1] + (((2, 0, 0), (0, 2, 0)),)), (0,), (1, 2))
        self.assertIs(can_swap(house, 0, doubled), True)
        self.assertIs(can_swap(house, 0, BOTH), False)
        self.assertIs(can_swap(house, 1, MIXER), True)
        self.assertIs(can_swap(house, 1, joiner_of((1, 2))), False)
        self.assertIsNone(parting_houses(SPLIT, doubled))
        first, other, amounts = parting_houses(SPLIT, BOTH)
        self.assertEqual(first[0], joined_house(SPLIT, (1, 1))[0])

    def test_all(self):
        chance = Random(164)
        modules = {}
        for module in forking_modules(200, 164, ins=(1, 2), inner=(0, 1), outs=(1, 2), deeds=(1, 3), top=2):
            modules.setdefault((len(module[1]), len(module[2])), []).append(module)
        counts = [0, 0]
        for some in modules.values():
            for _ in range(60):
                module, other = chance.choice(some), chance.choice(some)
                parted = parting_houses(module, other)
                alike = alike_modules(module, other)
                self.assertIs(parted is None, alike)
                counts[alike] += 1
                if parted:
                    self.parted(module, other, *parted)
        self.assertGreater(min(counts), 15)

    def parted(self, module, other, first, second, amounts):
        """The houses are joined houses of both by the same weights, with unlike mosts at the amounts."""
        weights = tuple(
            next((give[-1] for take, give in first[1][1][0][1] if take[door]), 0) for door in range(len(module[2])))
        self.assertEqual(first, joined_house(module, weights))
        self.assertEqual(second, joined_house(other, weights))
        mosts = []
        for house in (first, second):
            fill = house_fill(house, amounts + (NOUGHT,) * (house[0][0] - len(amounts)))
            mosts.append(most_of(flat_of(house)[0], house_wish(house, (1,)), fill))
        self.assertNotEqual(*mosts)

    def test_exchange(self):
        # What can be swapped changes no most of a house, at fills that are nought at inner wares (G10).
        chance = Random(165)
        swapped = 0
        modules = {}
        for module in forking_modules(300, 166, ins=(0, 2), inner=(1, 1), outs=(1, 2), deeds=(1, 3), top=2):
            modules.setdefault((len(module[1]), len(module[2])), []).append(module)
        for wiring in some_wirings(400, 167, wires=4, seats=2, side=2):
            if not wiring[1]:
                continue
            house = house_of(wiring, *[chance.choice(modules[len(ins), len(outs)]) for ins, outs in wiring[1]])
            seat = chance.randrange(len(wiring[1]))
            own = house[1][seat]
            for module in chance.sample(modules[len(own[1]), len(own[2])], 3):
                if not can_swap(house, seat, module):
                    continue
                swapped += module != own
                other = with_module(house, seat, module)
                for _ in range(3):
                    fill = some_fill(chance, wiring[0])
                    weights = some_weights(chance, len(wiring[3]))
                    self.assertEqual(*[most_of(flat_of(one)[0], house_wish(one, weights), house_fill(one, fill))
                                       for one in (house, other)])
        self.assertGreater(swapped, 20)

    def test_wrong(self):
        house = house_of(CHAIN, SPLIT, MIXER)
        for seat in (2, -1, True, None, "0"):
            with self.assertRaises(NotUsable) as caught:
                can_swap(house, seat, None)
            self.assertEqual(fields(caught.exception), ("seat", -1))
        for seat, module in ((0, MIXER), (1, SPLIT), (0, None), (0, FORKED), (0, [*SPLIT]), (0, Module(*SPLIT)),
                             (0, (SPLIT[0], (0,), (1, 1)))):
            with self.assertRaises(NotUsable) as caught:
                can_swap(house, seat, module)
            self.assertEqual(fields(caught.exception), ("module", -1))
        for other in (None, FORKED, MIXER, [*SPLIT], (SPLIT[0], (0,), (1, 1)), ()):
            with self.assertRaises(NotUsable) as caught:
                parting_houses(SPLIT, other)
            self.assertEqual(fields(caught.exception), ("other", -1))


class LinesTest(unittest.TestCase):
    def wrong(self, text, field):
        with self.assertRaises(InvalidText) as caught:
            read_wiring(text)
        self.assertEqual(fields(caught.exception), (0, field), text)

    def test_good(self):
        for wiring, line in ((LOOP, "3; 0 1 > 1 2; 0 > 2"), ((1, (), (), (0,)), "1; - > 0"),
                             ((12, (), (11, 0), (10, 1)), "12; 11 0 > 10 1"),
                             ((2, (((), (0, 0)), ((0, 0, 0), (1,))), (), (1,)), "2; - > 0 0; 0 0 0 > 1; - > 1")):
            self.assertEqual(wiring_line(wiring), line)
            self.assertEqual(read_wiring(line), wiring)
        for wiring in some_wirings(100, 168):
            self.assertEqual(read_wiring(wiring_line(wiring)), wiring)

    def test_fields(self):
        for text, field in (
                ("", 0), ("3", 0), ("3 0", 0), ("3;", 1), ("03; 0 > 1", 0), ("3;; 0 > 1", 0), ("-; 0 > 1", 0), ("x", 0),
                ("3; 0", 2), ("3; 0 >", 3), ("3; 0 > 1;", 4), ("3; 0; > 1", 1), ("3; > 1", 1), ("3; - 0 > 1", 2),
                ("3; -; > 1", 1), ("3; - > - 1", 4), ("3; - > 1 -", 4), ("3; 0 > 1 > 2", 4), ("3; 0 - > 1", 2),
                ("3; 0 > 1; 2", 5), ("3; 0 > 1; - >", 6), ("3; 0 > 1;; 0 > 2", 3), ("3; 0 > 01", 3), ("3;  0 > 1", 1),
                ("3; 0 > 1 ", 4), ("3; 0 > -;", 4), ("3; 0 > 1\n", 3), ("3; 0 > 1; - > -; ", 7), ("3; 0 > 1 2;0 > 2", 4),
                ("3; > > 1", 1), ("3; 0 > > 1", 3), ("3; 0 > oo", 3), (" 3; 0 > 1", 0), ("3; - > -2", 3)):
            self.wrong(text, field)

    def test_cut(self):
        words = "4; 0 > 1 2; - > 2; 0 > 3 1".split(" ")
        for k in range(len(words)):
            self.wrong(" ".join(words[:k] + ["?"] + words[k + 1:]), k)
            text = " ".join(words[:k])
            if k and not words[k - 1].endswith((";", ">")) and k not in (2, 6, 9, 1):
                try:
                    read_wiring(text)
                except InvalidRow:
                    pass
            else:
                self.wrong(text, k)

    def test_no_wirings(self):
        for text in ("0; - > 0", "1; - > -", "1; 0 > 0", "2; 0 0 > 1", "2; 0 > 1 1", "2; 0 > 2", "3; 0 > -; 0 > 2",
                     "3; 0 1 > 1 2; 1 > 2", "3; 0 1 > 1 2; 0 > 1", "3; 3 > 1; 0 > 2", "3; 0 > 1; 0 > -", "0; 0 > 0"):
            with self.assertRaises(InvalidRow) as caught:
                read_wiring(text)
            self.assertEqual(fields(caught.exception), (0,), text)
        for text in (None, 3, b"3", ["3"], True):
            with self.assertRaises(NotUsable) as caught:
                read_wiring(text)
            self.assertEqual(fields(caught.exception), ("text", -1))


class HouseTest(unittest.TestCase):
    def test_methods(self):
        chance = Random(169)
        modules = {}
        for module in (*rich_modules(300, 169, ins=(0, 2), inner=(0, 2), outs=(1, 2), deeds=(1, 3)),
                       *forking_modules(200, 170, ins=(0, 2), inner=(1, 2), outs=(1, 2), deeds=(1, 3))):
            modules.setdefault((len(module[1]), len(module[2])), []).append(module)
        for wiring in some_wirings(80, 170, wires=4, seats=3, side=2):
            own = tuple(chance.choice(modules[len(ins), len(outs)]) for ins, outs in wiring[1])
            house = House(wiring, *own)
            told = (wiring, own)
            self.assertEqual(house.told(), told)
            fill = some_fill(chance, wiring[0])
            weights = some_weights(chance, len(wiring[3]))
            flat = flat_of(told)
            most = house.most(weights, fill)
            self.assertEqual(most, most_of(flat[0], house_wish(told, weights), house_fill(told, fill)))
            linked = house.linked(weights, fill)
            self.assertEqual(linked, linked_most(wiring, tuple(door_tariffs(module) for module in own), weights, fill))
            self.assertFalse(less(linked, most))
            self.assertIsInstance(house.flat(), Module)
            self.assertEqual(house.flat().told(), flat)
            self.assertIs(house.safe(), is_safe(wiring))
            if own:
                seat = chance.randrange(len(own))
                module = chance.choice(modules[len(own[seat][1]), len(own[seat][2])])
                swapped = house.swap(seat, module)
                self.assertIsInstance(swapped, House)
                self.assertEqual(swapped.told(), with_module(told, seat, module))
                self.assertEqual(house.told(), told)
        # Where there is no right twin, the doors can tell more than there is.
        self.assertEqual(House(CHAIN, SPLIT, MIXER).most((1,), (TWO,) + (NOUGHT,) * 3), TWO)
        self.assertEqual(House(CHAIN, SPLIT, MIXER).linked((1,), (TWO,) + (NOUGHT,) * 3), (4, 1))

    def test_same(self):
        house = House(CHAIN, SPLIT, MIXER)
        self.assertTrue(house == House(CHAIN, SPLIT, MIXER))
        self.assertFalse(house != House(CHAIN, SPLIT, MIXER))
        self.assertTrue(House((1, (), (), (0,))) == House((1, (), (), (0,))))
        for other in (House(CHAIN, BOTH, MIXER), House((5,) + CHAIN[1:], SPLIT, MIXER), house.told(), None, 0, house.flat()):
            self.assertFalse(house == other)

    def test_wrong(self):
        for wiring in ODD + (CHAIN[:3], [*CHAIN], (0,) + CHAIN[1:], CHAIN[:3] + ((0,),)):
            with self.assertRaises(NotUsable) as caught:
                House(wiring, None)
            self.assertEqual(fields(caught.exception), ("wiring", -1))
        for modules, at in (((), -1), ((SPLIT,), -1), ((SPLIT, MIXER, MIXER), -1), ((MIXER, MIXER), 0), ((SPLIT, None), 1),
                            ((None, None), 0), ((SPLIT, Module(*MIXER)), 1)):
            with self.assertRaises(NotUsable) as caught:
                House(CHAIN, *modules)
            self.assertEqual(fields(caught.exception), ("modules", at))
        house = House(CHAIN, SPLIT, MIXER)
        fill = (ONE,) * 4
        for call, given, word in (
                (house.most, ((0,), None), "weights"), (house.most, ((1,), fill[1:]), "fill"),
                (house.linked, ((1, 1), None), "weights"), (house.linked, ((1,), None), "fill"),
                (house.swap, (2, None), "seat"), (house.swap, (True, None), "seat"), (house.swap, (0, MIXER), "module"),
                (house.swap, (0, Module(*SPLIT)), "module")):
            with self.assertRaises(NotUsable) as caught:
                call(*given)
            self.assertEqual(fields(caught.exception), (word, -1))


class ConsequencesTest(unittest.TestCase):
    def test_safe(self):
        for wiring in some_wirings(60, 171):
            self.assertIs(is_wiring(wiring), True)
            broken = breaking_of(wiring)
            self.assertIs(broken is None, is_safe(wiring))
            if broken:
                self.assertIs(is_house((wiring, broken[0])), True)


if __name__ == "__main__":
    unittest.main()
