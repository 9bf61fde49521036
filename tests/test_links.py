"""Points 77 to 79: tariffs of a wiring, reached wires, rows that link, and flows."""

import unittest
from fractions import Fraction
from random import Random

from stillhad.doortariffs import door_tariffs
from stillhad.errors import InvalidPaper, NotUsable
from stillhad.houses import flat_of, house_fill, house_wish
from stillhad.linkflows import endless_flow, flow_paper, lets_endless_flow, lets_flow
from stillhad.linking import linked_most
from stillhad.linkpapers import lets_link, link_paper
from stillhad.mosts import most_of
from stillhad.quotients import less
from stillhad.reachedwires import is_tariffs, reached_wires
from stillhad.rowsums import fill_plus, fill_times, support_of
from stillhad.twins import has_twin
from tests.helpers import (
    ENDLESS, GIVES, HALF, LOOP, NOUGHT, ODD, ONE, TWO, at_most, closed, fields, forking_modules, fraction, fractions, pair,
    plain, rich_modules, some_fill, some_tariff, some_weights, some_wirings, supported, tells)

FILL = (ONE, NOUGHT, NOUGHT)
ROW = ((3, 1), TWO, ONE)
QUOTIENTS = (((TWO,), (ONE,)),)
FLOW = (((ONE, TWO), (TWO, (3, 1))),)


def some_links(many, seed, **bounds):
    """Wirings with tariffs, weights and fills; some tariffs are empty, some rows endless somewhere or needless."""
    chance = Random(seed)
    for wiring in some_wirings(many, seed, **bounds):
        tariffs = tuple(
            tuple(some_tariff(chance, len(seat[0]), rows=3, top=2, open_part=0.75) for _ in seat[1]) for seat in wiring[1])
        yield wiring, tariffs, some_weights(chance, len(wiring[3])), some_fill(chance, wiring[0], top=4)


def reached_plainly(wiring, tariffs, lot):
    now = set(lot)
    changed = True
    while changed:
        changed = False
        for (in_wires, out_wires), doors in zip(wiring[1], tariffs):
            for wire, rows in zip(out_wires, doors):
                bare = [row for row in rows
                        if all(price == NOUGHT for price, own in zip(row, in_wires) if own in now)]
                if not bare and wire not in now:
                    now.add(wire)
                    changed = True
    return tuple(sorted(now))


def counting_rows(rows, in_wires, reached):
    return [k for k, row in enumerate(rows)
            if not any(price == ENDLESS and wire in reached for price, wire in zip(row, in_wires))]


def links(wiring, tariffs, weights, fill, row, quotients):
    """Whether a row links by quotients, by the words of the document."""
    wires, seats, ins, outs = wiring
    reached = reached_plainly(wiring, tariffs, supported(fill))
    if tuple(wire for wire in range(wires) if row[wire] != ENDLESS) != reached:
        return False
    if any(wire in reached and fraction(row[wire]) < weight for wire, weight in zip(outs, weights)):
        return False
    for k, (in_wires, out_wires) in enumerate(seats):
        for door, wire in enumerate(out_wires):
            own = fractions(quotients[k][door])
            able = counting_rows(tariffs[k][door], in_wires, reached)
            if any(own[at] for at in range(len(own)) if at not in able or wire not in reached):
                return False
            if wire in reached and sum(own) != fraction(row[wire]):
                return False
        for place, wire in enumerate(in_wires):
            whole = Fraction(0)
            for rows, told in zip(tariffs[k], quotients[k]):
                for one, quotient in zip(rows, told):
                    if wire in reached and fraction(quotient):
                        whole += fraction(quotient) * fraction(one[place])
            if wire in reached and fraction(row[wire]) < whole:
                return False
    return True


def is_flow(wiring, tariffs, fill, flow, amounts):
    """Whether a flow takes of no wire more than the amounts and what it gets, by the words of the document."""
    reached = reached_plainly(wiring, tariffs, supported(fill))
    taken = [Fraction(0)] * wiring[0]
    there = list(amounts)
    for (in_wires, out_wires), doors, (takes, gives) in zip(wiring[1], tariffs, flow):
        if any(fraction(amount) and wire not in reached for wire, amount in zip(in_wires, takes)):
            return None
        for wire, amount in zip(in_wires, fractions(takes)):
            taken[wire] += amount
        for wire, rows, amount in zip(out_wires, doors, fractions(gives)):
            there[wire] += amount
            for k in counting_rows(rows, in_wires, reached):
                if not at_most(amount, tells(rows[k], fractions(takes))):
                    return None
    return there if all(gone <= own for gone, own in zip(taken, there)) else None


class ReachedTest(unittest.TestCase):
    def test_document(self):
        self.assertEqual(reached_wires(LOOP, GIVES, (0,)), (0, 1, 2))

    def test_kinds(self):
        self.assertIs(is_tariffs(LOOP, GIVES), True)
        self.assertIs(is_tariffs((1, (), (), (0,)), ()), True)
        self.assertIs(is_tariffs(LOOP, (((), ()),)), True)
        for thing in ODD[:-4] + ([GIVES[0]], GIVES + GIVES, (GIVES[0][:1],), (GIVES[0] + ((),),), ([*GIVES[0]],), (None,),
                                 ((GIVES[0][0], None),), ((GIVES[0][0], ((ONE,),)),), ((((TWO, ONE), (ONE, ONE)), ()),),
                                 ((((ONE, ONE), (ONE, ONE)), ()),), ((((ONE, 1),), ()),), ((((),), ()),), GIVES[0]):
            self.assertIs(is_tariffs(LOOP, thing), False, thing)
        self.assertIs(is_tariffs((1, (), (), (0,)), ((),)), False)

    def test_edges(self):
        self.assertEqual(reached_wires(LOOP, GIVES, ()), ())
        self.assertEqual(reached_wires(LOOP, GIVES, (1,)), (1, 2))
        self.assertEqual(reached_wires(LOOP, GIVES, (2,)), (2,))
        # A door with an empty tariff is always reached; one with the row (), or a row of noughts, is never.
        self.assertEqual(reached_wires(LOOP, ((((NOUGHT, NOUGHT),), ()),), ()), (2,))
        self.assertEqual(reached_wires(LOOP, ((((NOUGHT, NOUGHT),), ((NOUGHT, ENDLESS),)),), (0,)), (0,))
        well = (2, (((), (0, 1)),), (), (1,))
        self.assertEqual(reached_wires(well, ((((),), ()),), ()), (1,))
        self.assertEqual(reached_wires(well, ((((),), ()),), (0,)), (0, 1))
        # Each row asks on its own: one is nought at in 0, the other one at in 1.
        rows = ((NOUGHT, ENDLESS), (ONE, NOUGHT))
        both = (3, (((0, 1), (2,)),), (0, 1), (2,))
        for lot, reached in (((), ()), ((0,), (0,)), ((1,), (1,)), ((0, 1), (0, 1, 2))):
            self.assertEqual(reached_wires(both, ((rows,),), lot), reached)
        # A wire twice in the in-wires stands at both places.
        self.assertEqual(reached_wires((2, (((0, 0), (1,)),), (0,), (1,)), ((rows,),), (0,)), (0, 1))

    def test_all(self):
        chance = Random(150)
        for wiring, tariffs, weights, fill in some_links(300, 150):
            self.assertIs(is_tariffs(wiring, tariffs), True)
            lot = tuple(sorted(chance.sample(range(wiring[0]), chance.randint(0, min(2, wiring[0])))))
            reached = reached_wires(wiring, tariffs, lot)
            self.assertEqual(reached, reached_plainly(wiring, tariffs, lot))
            self.assertEqual(reached_wires(wiring, tariffs, reached), reached)

    def test_wrong(self):
        for lot in ([0], (1, 0), (3,), (0, 0), (-1,), (True,), None, 0, ("0",)):
            with self.assertRaises(NotUsable) as caught:
                reached_wires(LOOP, GIVES, lot)
            self.assertEqual(fields(caught.exception), ("lot", -1))
        for tariffs in (None, (), GIVES + GIVES, [*GIVES], (((), ((ONE,),)),)):
            with self.assertRaises(NotUsable) as caught:
                reached_wires(LOOP, tariffs, None)
            self.assertEqual(fields(caught.exception), ("tariffs", -1))


class LinksTest(unittest.TestCase):
    def refused(self, thing, word, at, wiring=LOOP, tariffs=GIVES, weights=(1,), fill=FILL):
        with self.assertRaises(InvalidPaper) as caught:
            lets_link(wiring, tariffs, weights, fill, thing)
        self.assertEqual(fields(caught.exception), (word, at), thing)

    def test_document(self):
        self.assertEqual(lets_link(LOOP, GIVES, (1,), FILL, (ROW, QUOTIENTS)), (3, 1))
        self.assertEqual(linked_most(LOOP, GIVES, (1,), FILL), (3, 1))
        self.assertEqual(lets_flow(LOOP, GIVES, (1,), FILL, FLOW), (3, 1))

    def test_edges(self):
        none = (2, (), (0,), (1,))
        self.assertEqual(linked_most(none, (), (3,), (TWO, HALF)), (3, 2))
        self.assertEqual(link_paper(none, (), (3,), (TWO, HALF))[1], ())
        self.assertEqual(flow_paper(none, (), (3,), (TWO, HALF)), ())
        self.assertIsNone(endless_flow(none, (), (3,), (TWO, HALF)))
        self.assertEqual(linked_most(none, (), (3,), (NOUGHT, NOUGHT)), NOUGHT)
        # An empty tariff gives without end, but for a weight of 0.
        well = (2, (((), (0, 1)),), (), (0, 1))
        self.assertEqual(linked_most(well, ((((),), ()),), (5, 0), (HALF, NOUGHT)), (5, 2))
        self.assertEqual(linked_most(well, ((((),), ()),), (0, 1), (HALF, NOUGHT)), ENDLESS)
        self.assertIsNone(link_paper(well, ((((),), ()),), (0, 1), (HALF, NOUGHT)))
        self.assertIsNone(flow_paper(well, ((((),), ()),), (0, 1), (HALF, NOUGHT)))
        self.assertEqual(endless_flow(well, ((((),), ()),), (5, 0), (HALF, NOUGHT)), None)
        gained = endless_flow(well, ((((),), ()),), (0, 1), (HALF, NOUGHT))
        self.assertLess(0, lets_endless_flow(well, ((((),), ()),), (0, 1), (HALF, NOUGHT), gained)[0])
        # A ring that gives more than it takes is endless, but only once something has come to it.
        ring = (3, (((0, 1), (1, 2)),), (0,), (2,))
        more = ((((ONE, TWO),), ((NOUGHT, ONE),)),)
        self.assertEqual(linked_most(ring, more, (1,), FILL), ENDLESS)
        self.assertEqual(linked_most(ring, more, (1,), (NOUGHT,) * 3), NOUGHT)
        # Shared wires are had once.
        shared = (3, (((0,), (1,)), ((0,), (2,))), (0,), (1, 2))
        ones = ((((ONE,),),), (((ONE,),),))
        self.assertEqual(linked_most(shared, ones, (1, 1), (TWO, NOUGHT, NOUGHT)), TWO)
        self.assertEqual(linked_most(shared, ones, (2, 1), (TWO, NOUGHT, NOUGHT)), (4, 1))
        # A wire twice in the in-wires of a seat: what is taken at both places comes from one amount.
        twice = (2, (((0, 0), (1,)),), (0,), (1,))
        self.assertEqual(linked_most(twice, ((((ONE, NOUGHT), (NOUGHT, ONE))[::-1],),), (2,), (ONE, NOUGHT)), ONE)
        # A row that is endless at a reached place does not count.
        tools = ((((NOUGHT, ENDLESS), (ONE, NOUGHT)),),)
        both = (3, (((0, 1), (2,)),), (0, 1), (2,))
        self.assertEqual(linked_most(both, tools, (1,), (TWO, NOUGHT, NOUGHT)), NOUGHT)
        self.assertEqual(linked_most(both, tools, (1,), (TWO, (1, 9), NOUGHT)), TWO)

    def test_link_faults(self):
        for thing in ODD + ((ROW, QUOTIENTS, None), [ROW, QUOTIENTS], (ROW,), (None, QUOTIENTS), (ROW[:2], QUOTIENTS),
                            (ROW + (ONE,), QUOTIENTS), ([*ROW], QUOTIENTS), ((ONE, ONE, 1), QUOTIENTS), (ROW, None),
                            (ROW, ()), (ROW, QUOTIENTS * 2), (ROW, [*QUOTIENTS]), (ROW, (None,)), (ROW, (((TWO,),),)),
                            (ROW, ([(TWO,), (ONE,)],)), (ROW, (((TWO,), (ONE, ONE)),)), (ROW, (((TWO,), ONE),)),
                            (ROW, (((ENDLESS,), (ONE,)),)), (ROW, (((TWO,), [ONE]),)), (ROW, (((), (ONE,)),))):
            self.refused(thing, "shape", -1)
        for row in ((ENDLESS, TWO, ONE), ((3, 1), TWO, ENDLESS), (ENDLESS,) * 3):
            self.refused((row, QUOTIENTS), "row", -1)
        self.refused((ROW, QUOTIENTS), "row", -1, fill=(NOUGHT, ONE, NOUGHT))
        self.refused((ROW[:2] + (HALF,), QUOTIENTS), "wish", 0)
        self.refused((ROW, QUOTIENTS), "wish", 0, weights=(2,))
        # Two outs, of which the second one lacks.
        two = (3, (((0,), (1, 2)),), (0,), (2, 1))
        ones = ((((ONE,),), ((ONE,),)),)
        good = ((TWO, ONE, ONE), (((ONE,), (ONE,)),))
        self.assertEqual(lets_link(two, ones, (1, 1), FILL, good), TWO)
        self.refused(good, "wish", 1, two, ones, (1, 2))
        self.refused(good, "wish", 0, two, ones, (2, 2))
        for told in (((HALF,), (ONE,)), ((TWO,), (HALF,)), ((TWO,), (NOUGHT,)), ((TWO,), (TWO,)), ((NOUGHT,), (NOUGHT,))):
            self.refused((ROW, (told,)), "sum", 0)
        self.refused(((TWO, TWO, ONE), QUOTIENTS), "below", 0)
        self.refused((((3, 1), ONE, ONE), (((ONE,), (ONE,)),)), "below", 0)
        # Each seat for itself, first its doors, then its in-places.
        three = (3, (((0,), (1,)), ((1,), (2,))), (0,), (2,))
        doors = ((((ONE,),),), (((ONE,),),))
        self.assertEqual(lets_link(three, doors, (1,), FILL, ((ONE,) * 3, (((ONE,),), ((ONE,),)))), ONE)
        self.refused(((ONE,) * 3, (((ONE,),), ((HALF,),))), "sum", 1, three, doors)
        self.refused(((ONE,) * 3, (((HALF,),), ((HALF,),))), "sum", 0, three, doors)
        self.refused(((HALF, ONE, ONE), (((ONE,),), ((HALF,),))), "below", 0, three, doors)
        self.refused(((ONE, HALF, ONE), (((HALF,),), ((ONE,),))), "below", 1, three, doors)
        # Rows that don't count, and doors that are not reached, ask for noughts.
        both = (3, (((0, 1), (2,)),), (0, 1), (2,))
        tools = ((((NOUGHT, ENDLESS), (ONE, NOUGHT)),),)
        fill = (ONE, ONE, NOUGHT)
        self.assertEqual(lets_link(both, tools, (1,), fill, ((ONE, NOUGHT, ONE), (((NOUGHT, ONE),),))), ONE)
        self.refused(((ONE, NOUGHT, ONE), (((ONE, NOUGHT),),)), "sum", 0, both, tools, fill=fill)
        self.refused(((ONE, NOUGHT, ONE), (((HALF, HALF),),)), "sum", 0, both, tools, fill=fill)
        shut = (NOUGHT, ONE, NOUGHT)
        self.assertEqual(lets_link(both, tools, (1,), shut, ((ENDLESS, NOUGHT, ENDLESS), (((NOUGHT, NOUGHT),),))), NOUGHT)
        self.refused(((ENDLESS, NOUGHT, ENDLESS), (((NOUGHT, ONE),),)), "sum", 0, both, tools, fill=shut)
        self.refused(((ENDLESS, NOUGHT, ENDLESS), (((ONE, NOUGHT),),)), "sum", 0, both, tools, fill=shut)

    def flow_refused(self, thing, word, at, wiring=LOOP, tariffs=GIVES, weights=(1,), fill=FILL,
                     calls=(lets_flow, lets_endless_flow)):
        for call in calls:
            with self.assertRaises(InvalidPaper) as caught:
                call(wiring, tariffs, weights, fill, thing)
            self.assertEqual(fields(caught.exception), (word, at), thing)

    def test_flow_faults(self):
        for thing in ODD[:-6] + ((), [*FLOW], FLOW * 2, (None,), (FLOW[0] + ((),),), ([*FLOW[0]],), (FLOW[0][:1],),
                                 (((ONE,), FLOW[0][1]),), ((FLOW[0][0], (TWO,)),), ((FLOW[0][0], (TWO, ENDLESS)),),
                                 ((FLOW[0][0], [TWO, ONE]),), ((FLOW[0][0], (TWO, True)),), ((None, FLOW[0][1]),), FLOW[0]):
            self.flow_refused(thing, "shape", -1)
        self.flow_refused(((((NOUGHT, NOUGHT)), (NOUGHT, HALF)),), "gives", 0)
        self.flow_refused((((ONE, TWO), ((5, 2), (3, 1))),), "gives", 0)
        self.flow_refused((((ONE, TWO), (TWO, (4, 1))),), "gives", 0)
        self.flow_refused((((TWO, TWO), (TWO, (3, 1))),), "lacks", 0)
        self.flow_refused((((ONE, TWO), (ONE, (3, 1))),), "lacks", 1, calls=(lets_flow,))
        # What is there does not count for a flow without end; by itself it must gain.
        self.flow_refused(FLOW, "lacks", 0, calls=(lets_endless_flow,))
        nothing = (((NOUGHT, NOUGHT), (NOUGHT, NOUGHT)),)
        self.flow_refused(nothing, "gain", -1, calls=(lets_endless_flow,))
        self.assertEqual(lets_flow(LOOP, GIVES, (1,), FILL, nothing), NOUGHT)
        self.assertEqual(lets_flow(LOOP, GIVES, (3,), (ONE, NOUGHT, HALF), nothing), (3, 2))
        # What is not reached is not taken, even if nothing comes of it.
        self.flow_refused((((ONE, NOUGHT), (NOUGHT, NOUGHT)),), "takes", 0, fill=(NOUGHT, ONE, NOUGHT))
        three = (3, (((0,), (1,)), ((1,), (2,))), (0,), (2,))
        doors = ((((ONE,),),), (((ONE,),),))
        good = (((ONE,), (ONE,)), ((ONE,), (ONE,)))
        self.assertEqual(lets_flow(three, doors, (2,), FILL, good), TWO)
        self.flow_refused((good[0], ((ONE,), (TWO,))), "gives", 1, three, doors)
        self.flow_refused((((ONE,), (TWO,)), ((ONE,), (TWO,))), "gives", 0, three, doors)
        self.flow_refused((((NOUGHT,), (ONE,)), ((ONE,), (ONE,))), "gives", 0, three, doors, fill=(NOUGHT, ONE, NOUGHT))
        self.flow_refused((((ONE,), (ONE,)), ((ONE,), (TWO,))), "takes", 0, three, doors, fill=(NOUGHT, ONE, NOUGHT))
        self.flow_refused((((TWO,), (TWO,)), ((TWO,), (TWO,))), "lacks", 0, three, doors)
        self.flow_refused((((ONE,), (HALF,)), ((ONE,), (ONE,))), "lacks", 1, three, doors, calls=(lets_flow,))
        # A row that does not count does not bound what is given.
        both = (3, (((0, 1), (2,)),), (0, 1), (2,))
        tools = ((((NOUGHT, ENDLESS), (ONE, NOUGHT)),),)
        self.assertEqual(lets_flow(both, tools, (1,), (ONE, ONE, NOUGHT), (((ONE, NOUGHT), (ONE,)),)), ONE)
        # Endless by what the first door gives to its own in-wire; a row of it alone bounds the second one.
        more = ((((ONE, TWO),), ((NOUGHT, ONE),)),)
        self.assertEqual(lets_endless_flow(LOOP, more, (3,), FILL, (((NOUGHT, ONE), (TWO, ONE)),)), (3, 1))
        self.flow_refused((((NOUGHT, ONE), (TWO, NOUGHT)),), "gain", -1, LOOP, more, (3,), calls=(lets_endless_flow,))
        self.flow_refused((((NOUGHT, ONE), (HALF, ONE)),), "lacks", 1, LOOP, more, (3,), calls=(lets_endless_flow,))
        self.flow_refused((((NOUGHT, ONE), (TWO, TWO)),), "gives", 0, LOOP, more, (3,))

    def shown(self, wiring, tariffs, weights, fill):
        """The linked most, shown from both sides by the words of the document."""
        given = (wiring, tariffs, weights, fill)
        most = linked_most(*given)
        paper, flow, away = link_paper(*given), flow_paper(*given), endless_flow(*given)
        outs = wiring[3]
        if most == ENDLESS:
            self.assertIsNone(paper)
            self.assertIsNone(flow)
            there = is_flow(wiring, tariffs, fill, away, [Fraction(0)] * wiring[0])
            gain = sum(there[wire] * weight for wire, weight in zip(outs, weights))
            self.assertGreater(gain, 0)
            self.assertEqual(lets_endless_flow(*given, away), pair(gain))
            return most
        self.assertIsNone(away)
        row, quotients = paper
        self.assertTrue(links(*given, row, quotients))
        self.assertEqual(lets_link(*given, paper), most)
        self.assertEqual(tells(row, fractions(fill)), fraction(most))
        there = is_flow(wiring, tariffs, fill, flow, fractions(fill))
        worth = sum(there[wire] * weight for wire, weight in zip(outs, weights))
        self.assertEqual(pair(worth), most)
        self.assertEqual(lets_flow(*given, flow), most)
        return most

    def test_all(self):
        chance = Random(151)
        counts = [0, 0, 0]
        for wiring, tariffs, weights, fill in some_links(500, 151):
            most = self.shown(wiring, tariffs, weights, fill)
            counts[2 if most == ENDLESS else most != NOUGHT] += 1
            if most != ENDLESS:
                half = fill_times(fill, HALF)
                self.assertEqual(fraction(linked_most(wiring, tariffs, weights, half)) * 2, fraction(most))
            more = fill_plus(fill, some_fill(chance, wiring[0]))
            self.assertFalse(less(linked_most(wiring, tariffs, weights, more), most))
        self.assertGreater(min(counts), 60)

    def test_checkers(self):
        # Papers bent a little are accepted just by the words of the document.
        chance = Random(152)
        good = bad = 0
        for wiring, tariffs, weights, fill in some_links(250, 152, seats=2, wires=4, side=2):
            given = (wiring, tariffs, weights, fill)
            paper = link_paper(*given)
            if paper is not None:
                row = list(paper[0])
                at = chance.randrange(len(row))
                row[at] = chance.choice((NOUGHT, HALF, ONE, TWO, (9, 1), ENDLESS))
                accepted = links(*given, tuple(row), paper[1])
                try:
                    self.assertEqual(fraction(lets_link(*given, (tuple(row), paper[1]))), tells(row, fractions(fill)))
                    self.assertTrue(accepted)
                    good += 1
                except InvalidPaper:
                    self.assertFalse(accepted)
                    bad += 1
            flow = tuple(
                (tuple(chance.choice((NOUGHT, NOUGHT, HALF, ONE)) for _ in seat[0]),
                 tuple(chance.choice((NOUGHT, NOUGHT, NOUGHT, (1, 3), ONE)) for _ in seat[1])) for seat in wiring[1])
            for call, amounts in ((lets_flow, fractions(fill)), (lets_endless_flow, [Fraction(0)] * wiring[0])):
                there = is_flow(wiring, tariffs, fill, flow, amounts)
                worth = None if there is None else sum(there[wire] * weight for wire, weight in zip(wiring[3], weights))
                accepted = worth is not None and (call is lets_flow or worth > 0)
                try:
                    self.assertEqual(fraction(call(*given, flow)), worth)
                    self.assertTrue(accepted)
                    good += 1
                except InvalidPaper:
                    self.assertFalse(accepted)
                    bad += 1
        self.assertGreater(min(good, bad), 100)

    def test_papers_bound_flows(self):
        for wiring, tariffs, weights, fill in some_links(120, 153):
            paper = link_paper(wiring, tariffs, weights, fill)
            if paper is None:
                continue
            told = lets_link(wiring, tariffs, weights, fill, paper)
            flow = flow_paper(wiring, tariffs, weights, fill)
            part = tuple((fill_times(takes, HALF), fill_times(gives, (1, 4))) for takes, gives in flow)
            try:
                self.assertFalse(less(told, lets_flow(wiring, tariffs, weights, fill, part)))
            except InvalidPaper as error:
                self.assertEqual(error.word, "lacks")

    def test_large(self):
        for seed in range(3):
            chance = Random(seed)
            seats = tuple((tuple(chance.randrange(5) for _ in range(3)), tuple(chance.randint(1, 5) for _ in range(3)))
                          for _ in range(4))
            wiring = (6, seats, (0,), (5,))

            def price():
                return pair(Fraction(chance.randint(1, 10 ** 6), chance.choice((1, 10 ** 6)) * 10 ** 6 + chance.randint(0, 9)))

            tariffs = tuple(tuple(tuple(sorted({(price(), price(), price()) for _ in range(8)})) for _ in range(3))
                            for _ in range(4))
            self.shown(wiring, tariffs, (10 ** 6,), (((10 ** 12, 1),) * 6))

    def test_wrong(self):
        for call, more in ((linked_most, ()), (link_paper, ()), (flow_paper, ()), (endless_flow, ()), (lets_link, (None,)),
                           (lets_flow, (None,)), (lets_endless_flow, (None,))):
            for tariffs in (None, (), [*GIVES], (((), ((ONE,),)),), GIVES + GIVES):
                self.refused_parameter("tariffs", call, LOOP, tariffs, None, None, *more)
            for weights in (None, (), (0,), (1, 1), [1], (True,), (-1,), (ONE,), 1):
                self.refused_parameter("weights", call, LOOP, GIVES, weights, None, *more)
            for fill in (None, (), FILL[:2], FILL + FILL[:1], [*FILL], (ONE, ONE, ENDLESS), (1, 1, 1)):
                self.refused_parameter("fill", call, LOOP, GIVES, (1,), fill, *more)

    def refused_parameter(self, word, call, *given):
        with self.assertRaises(NotUsable) as caught:
            call(*given)
        self.assertEqual(fields(caught.exception), (word, -1), given)


class HousesTest(unittest.TestCase):
    """What modules with right twins make of it (G11), and reached wires by door tariffs."""

    def test_all(self):
        chance = Random(154)
        some = {}
        for module in (*rich_modules(500, 154, inner=(0, 2), deeds=(1, 3), part=0.3),
                       *forking_modules(700, 155, ins=(0, 3), inner=(1, 2), outs=(1, 3), deeds=(1, 3))):
            own = some.setdefault((len(module[1]), len(module[2])), [])
            if len(own) < 14 and has_twin(module):
                own.append((module, door_tariffs(module)))
        counts = [0, 0, 0]
        for wiring in some_wirings(350, 156, wires=5, seats=3):
            chosen = [chance.choice(some[len(ins), len(outs)]) for ins, outs in wiring[1]]
            house = (wiring, tuple(module for module, _ in chosen))
            tariffs = tuple(own for _, own in chosen)
            flat = flat_of(house)
            fill = some_fill(chance, wiring[0])
            weights = some_weights(chance, len(wiring[3]))
            whole = house_fill(house, fill)
            most = linked_most(wiring, tariffs, weights, fill)
            self.assertEqual(most, most_of(flat[0], house_wish(house, weights), whole))
            counts[2 if most == ENDLESS else most != NOUGHT] += 1
            lot = tuple(wire for wire in closed(flat[0], supported(whole)) if wire < wiring[0])
            self.assertEqual(reached_wires(wiring, tariffs, support_of(fill)), lot)
        self.assertGreater(min(counts), 40)

    def test_plain(self):
        self.assertEqual(plain(linked_most(LOOP, GIVES, (2,), (HALF, ONE, NOUGHT))), 7)


if __name__ == "__main__":
    unittest.main()
