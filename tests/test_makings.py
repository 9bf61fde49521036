"""Points 69 to 72: what modules make, alike modules, Module and its line, and what follows."""

import unittest
from random import Random

from stillhad.alikes import alike_modules, lets_apart, modules_apart
from stillhad.bookchanges import scaled, with_deed
from stillhad.bookclasses import Book
from stillhad.doormosts import door_each, door_most
from stillhad.doortariffs import door_tariff, door_tariffs
from stillhad.errors import Barred, InvalidPaper, InvalidRow, InvalidText, NoTwin, NotUsable, TextError
from stillhad.following import follows, goal_run, stretch_of
from stillhad.layers import layers_of
from stillhad.makings import lets_making, makes, making_paper, making_stretch
from stillhad.moduleclasses import Module, read_module
from stillhad.modules import goal_fill, module_fill
from stillhad.quotients import less
from stillhad.rightmodules import is_right_module
from stillhad.samebooks import deed_follows
from stillhad.twins import has_twin, twin_of
from tests.helpers import (
    BARE, BOTH, ENDLESS, FORK, FORKED, HALF, NOUGHT, ODD, ONE, SPLIT, SPRING, TOOL, TOOLED, TWO, can_be_done,
    fields, forking_modules, fractions, plain, rich_modules, some_fill, some_weights)


class MakingsTest(unittest.TestCase):
    def refused(self, thing, word, at, module=SPLIT, amounts=(ONE,), goal=(ONE, ONE)):
        with self.assertRaises(InvalidPaper) as caught:
            lets_making(module, amounts, goal, thing)
        self.assertEqual(fields(caught.exception), (word, at), thing)

    def test_document(self):
        self.assertIs(makes(SPLIT, (TWO,), (ONE, ONE)), True)
        self.assertEqual(making_stretch(SPLIT, (TWO,), (TWO, TWO)), HALF)
        self.assertIs(lets_making(SPLIT, (ONE,), (ONE, ONE), ("row", (ONE, ONE, ONE))), False)
        self.assertIs(lets_making(SPLIT, (TWO,), (ONE, ONE), ("flux", (0, 1), (ONE, ONE))), True)

    def test_edges(self):
        self.assertIs(makes(SPLIT, (NOUGHT,), (NOUGHT, NOUGHT)), True)
        self.assertEqual(making_stretch(SPLIT, (NOUGHT,), (NOUGHT, NOUGHT)), ENDLESS)
        self.assertEqual(making_stretch(SPLIT, (NOUGHT,), (NOUGHT, HALF)), NOUGHT)
        self.assertEqual(making_stretch((SPRING, (), (0,)), (), ((7, 1),)), ENDLESS)
        self.assertIs(makes((SPRING, (), (0,)), (), ((10 ** 9, 1),)), True)
        self.assertIs(makes((BARE, (), (1, 0)), (), (NOUGHT, (1, 9))), False)
        # Goals and amounts go by the sequence of the outs and the ins.
        turned = (SPLIT[0], (0,), (2, 1))
        self.assertEqual(making_paper(turned, (TWO,), (TWO, NOUGHT))[2], (NOUGHT, TWO))
        tools = (TOOLED[0], (1, 0), (3,))
        self.assertEqual(making_stretch(tools, (HALF, TWO), (ONE,)), TWO)
        self.assertIs(makes(tools, (NOUGHT, TWO), (HALF,)), False)

    def test_papers(self):
        for thing in ODD + (("flux", ()), ("row",), ("row", 1, 2), ("made", ())):
            self.refused(thing, "shape", -1)
        self.refused(("row", (ONE, ONE)), "row", -1)
        self.refused(("row", (ONE, ONE, TWO)), "rises", 1)
        self.refused(("row", (ONE, ONE, NOUGHT)), "even", -1)
        self.refused(("flux", None, None), "shape", -1)
        self.refused(("flux", (0, 1), (ONE,)), "flux", -1)
        self.refused(("flux", (0,), (ONE, ONE)), "open", -1)
        self.refused(("flux", (0, 1), (ONE, ONE)), "lacks", 0)
        self.refused(("flux", (), (ONE, NOUGHT)), "within", 0, amounts=(NOUGHT,))

    def test_all(self):
        chance = Random(120)
        counts = [0, 0]
        for module in (*rich_modules(120, 120, part=0.3), *forking_modules(120, 121)):
            book, ins, outs = module
            amounts = some_fill(chance, len(ins))
            goal = some_fill(chance, len(outs), top=3)
            fill, aim = module_fill(module, amounts), goal_fill(module, goal)
            made = makes(module, amounts, goal)
            counts[made] += 1
            self.assertIs(made, follows(book, fill, aim))
            paper = making_paper(module, amounts, goal)
            self.assertIs(lets_making(module, amounts, goal, paper), made)
            self.assertEqual(paper[0], "flux" if made else "row")
            stretch = making_stretch(module, amounts, goal)
            self.assertEqual(stretch, stretch_of(book, fill, aim))
            self.assertIs(made, not less(stretch, ONE))
            # Just what is made in this sense can be had but for a grain.
            if made:
                run = goal_run(book, fill, aim, HALF)
                can, end = can_be_done(book, fill, run)
                self.assertTrue(can)
                for own, part in zip(fractions(end), fractions(aim)):
                    self.assertGreaterEqual(2 * own, part)
            else:
                with self.assertRaises(Barred):
                    goal_run(book, fill, aim, HALF)
            # What is made is told by the mosts for all weights.
            for _ in range(4):
                weights = some_weights(chance, len(outs))
                worth = sum(part * weight for part, weight in zip(fractions(goal), weights))
                most = plain(door_most(module, weights, amounts))
                if made:
                    self.assertTrue(most is None or worth <= most)
        self.assertGreater(min(counts), 60)

    def test_weights_tell(self):
        # A goal that is not made is worth more than the most for some weights: those of the row that bars it.
        chance = Random(122)
        barred = 0
        for module in forking_modules(150, 122):
            goal = some_fill(chance, len(module[2]), top=3)
            amounts = some_fill(chance, len(module[1]))
            if makes(module, amounts, goal):
                continue
            row = making_paper(module, amounts, goal)[1]
            prices = [row[ware] for ware in module[2]]
            if any(price == ENDLESS and part != NOUGHT for price, part in zip(prices, goal)):
                prices = [(int(price == ENDLESS), 1) for price in prices]
            prices = [NOUGHT if price == ENDLESS else price for price in prices]
            bottom = 1
            for price in prices:
                bottom *= price[1]
            weights = tuple(int(plain(price) * bottom) for price in prices)
            worth = sum(part * weight for part, weight in zip(fractions(goal), weights))
            self.assertLess(plain(door_most(module, weights, amounts)), worth)
            barred += 1
        self.assertGreater(barred, 50)


class AlikesTest(unittest.TestCase):
    def apart(self, module, other):
        """Whether the modules are apart, by what lets_apart and door_most tell."""
        thing = modules_apart(module, other)
        self.assertIs(alike_modules(module, other), thing is None)
        if thing is None:
            return False
        mosts = lets_apart(module, other, thing)
        amounts, weights = thing
        self.assertEqual(mosts, (door_most(module, weights, amounts), door_most(other, weights, amounts)))
        self.assertNotEqual(mosts[0], mosts[1])
        return True

    def refused(self, thing, word, at, module=SPLIT, other=BOTH):
        with self.assertRaises(InvalidPaper) as caught:
            lets_apart(module, other, thing)
        self.assertEqual(fields(caught.exception), (word, at), thing)

    def test_document(self):
        self.assertEqual(layers_of(1, (((ONE,),), ((ONE,),))), BOTH)
        self.assertEqual(lets_apart(SPLIT, BOTH, ((ONE,), (1, 1))), (ONE, TWO))
        self.assertIs(alike_modules(FORKED, twin_of(FORKED)), True)
        self.assertTrue(self.apart(SPLIT, BOTH))
        self.assertTrue(self.apart(BOTH, SPLIT))

    def test_faults(self):
        for thing in ODD + (((ONE,), (1, 1), None), [(ONE,), (1, 1)], ((ONE,),)):
            self.refused(thing, "shape", -1)
        for amounts in (None, (), (ONE, ONE), [ONE], (ENDLESS,), ((2, 4),), ONE, (1,)):
            self.refused((amounts, (1, 1)), "amounts", -1)
            self.refused((amounts, None), "amounts", -1)
        for weights in (None, (1,), (1, 1, 1), [1, 1], (0, 0), (1, True), (1, -1), (1, ONE)):
            self.refused(((ONE,), weights), "weights", -1)
            self.refused(((NOUGHT,), weights), "weights", -1)
        for thing in (((NOUGHT,), (1, 1)), ((ONE,), (1, 0)), ((TWO,), (0, 3))):
            self.refused(thing, "alike", -1)
            self.refused(thing, "alike", -1, BOTH, SPLIT)
        # Both are endless.
        springs = ((SPRING, (), (0,)), ((1, (((0,), (2,)),)), (), (0,)))
        self.refused(((), (1,)), "alike", -1, *springs)
        self.assertEqual(lets_apart(springs[0], ((1, ()), (), (0,)), ((), (1,))), (ENDLESS, NOUGHT))

    def test_edges(self):
        nothing = ((1, ()), (), (0,))
        self.assertFalse(self.apart(nothing, nothing))
        self.assertTrue(self.apart(nothing, (SPRING, (), (0,))))
        self.assertTrue(self.apart((SPRING, (), (0,)), nothing))
        self.assertFalse(self.apart((SPRING, (), (0,)), ((1, (((0,), (5,)),)), (), (0,))))
        # A tool that is an in: only where it lacks they are unlike, or only where it does not.
        plainly = ((3, (((1, 0, 0), (0, 0, 1)),)), (0, 1), (2,))
        self.assertTrue(self.apart(TOOLED, plainly))
        self.assertEqual(modules_apart(TOOLED, plainly)[0][1], NOUGHT)
        double = ((4, TOOLED[0][1] + (((1, 0, 1, 0), (0, 0, 1, 2)),)), (0, 1), (3,))
        self.assertTrue(self.apart(TOOLED, double))
        self.assertNotEqual(modules_apart(TOOLED, double)[0][1], NOUGHT)
        # The ins and the outs go by their sequence.
        self.assertTrue(self.apart(TOOLED, (TOOLED[0], (1, 0), (3,))))
        self.assertFalse(self.apart(SPLIT, (SPLIT[0], (0,), (2, 1))))
        uneven = ((3, SPLIT[0][1][:1] + (((1, 0, 0), (0, 0, 2)),)), (0,), (1, 2))
        self.assertTrue(self.apart(uneven, (uneven[0], (0,), (2, 1))))
        # One out alone is no less had together with the other one: just weights for both tell them apart.
        thing = modules_apart(SPLIT, BOTH)
        self.assertGreater(min(thing[1]), 0)
        # An inner ware that nothing gives is never there, whatever is taken of it.
        self.assertFalse(self.apart(nothing, ((2, (((0, 1), (1, 0)),)), (), (0,))))

    def test_changes(self):
        chance = Random(124)
        more = 0
        for module in (*rich_modules(60, 124, part=0.3), *forking_modules(60, 125)):
            book, ins, outs = module
            size, deeds = book
            self.assertFalse(self.apart(module, module))
            # Inner wares renamed.
            inner = [ware for ware in range(size) if ware not in ins + outs]
            order = list(range(size))
            for ware, name in zip(inner, chance.sample(inner, len(inner))):
                order[ware] = name
            named = tuple((tuple(take[order[k]] for k in range(size)), tuple(give[order[k]] for k in range(size)))
                          for take, give in deeds)
            self.assertFalse(self.apart(module, ((size, named), ins, outs)))
            deed = chance.randrange(len(deeds))
            if len(deeds) < 8:
                self.assertFalse(self.apart(module, ((size, deeds + (deeds[deed],)), ins, outs)))
                take = tuple(chance.randint(0, 2) if ware not in outs else 0 for ware in range(size))
                give = tuple(chance.randint(0, 1) if ware not in ins else 0 for ware in range(size))
                if deed_follows(book, take, give):
                    self.assertFalse(self.apart(module, (with_deed(book, take, give), ins, outs)))
                    more += any(give)
            self.assertFalse(self.apart(module, (scaled(book, deed, 3), ins, outs)))
        self.assertGreater(more, 20)

    def test_all(self):
        chance = Random(126)
        modules = {}
        for module in forking_modules(260, 126, ins=(1, 2), inner=(0, 1), outs=(1, 2), deeds=(1, 3), top=2):
            modules.setdefault((len(module[1]), len(module[2])), []).append(module)
        counts = [0, 0]
        twins = 0
        for (ins, outs), some in modules.items():
            for _ in range(120):
                module, other = chance.choice(some), chance.choice(some)
                alike = not self.apart(module, other)
                self.assertEqual(alike, not self.apart(other, module))
                counts[alike] += 1
                if alike:
                    self.same(chance, module, other)
                if has_twin(module) and has_twin(other):
                    twins += alike
                    self.assertEqual(alike, door_tariffs(module) == door_tariffs(other))
        self.assertGreater(min(counts), 50)
        self.assertGreater(twins, 20)

    def same(self, chance, module, other):
        """Alike modules have the same mosts, door tariffs and goals, and both or neither have twins."""
        self.assertEqual(door_tariffs(module), door_tariffs(other))
        self.assertIs(has_twin(module), has_twin(other))
        for _ in range(4):
            amounts = some_fill(chance, len(module[1]))
            goal = some_fill(chance, len(module[2]), top=3)
            weights = some_weights(chance, len(module[2]))
            self.assertEqual(door_most(module, weights, amounts), door_most(other, weights, amounts))
            self.assertIs(makes(module, amounts, goal), makes(other, amounts, goal))

    def test_twins(self):
        small = 0
        for module in (*rich_modules(60, 127, part=0.3), *forking_modules(60, 128)):
            if has_twin(module):
                twin = twin_of(module)
                if twin[0][0] <= 9:
                    self.assertFalse(self.apart(module, twin))
                    small += 1
        self.assertGreater(small, 40)

    def test_limits(self):
        # Eight wares, eight deeds, and numbers as great as they may be.
        for bounds in ({"ins": (3, 3), "inner": (2, 2), "outs": (3, 3)}, {"ins": (2, 2), "inner": (4, 4), "outs": (2, 2)}):
            some = list(forking_modules(6, 129, deeds=(8, 8), top=10 ** 6, **bounds))
            for module in some:
                book, ins, outs = module
                turned = ((book[0], book[1][::-1]), ins, outs)
                self.assertFalse(self.apart(module, turned))
                if module != some[0]:
                    self.assertTrue(self.apart(module, some[0]))

    def test_wrong(self):
        for other in (None, (), FORKED, BOTH[0], [*BOTH], (BOTH[0], [0], (3, 4)), (BOTH[0], (), (3, 4)),
                      (BOTH[0], (0,), (3,)), (BARE, (), (0, 1)), (SPLIT[0], (0,), (2, 2)), Module(*BOTH)):
            for call in (alike_modules, modules_apart):
                with self.assertRaises(NotUsable) as caught:
                    call(SPLIT, other)
                self.assertEqual(fields(caught.exception), ("other", -1))
            with self.assertRaises(NotUsable) as caught:
                lets_apart(SPLIT, other, None)
            self.assertEqual(fields(caught.exception), ("other", -1))


class ModuleTest(unittest.TestCase):
    def test_methods(self):
        for told in (SPLIT, FORKED, TOOLED, BOTH, (SPRING, (), (0,)), (BARE, (), (1, 0))):
            module = Module(*told)
            amounts = (HALF, TWO)[:len(told[1])]
            goal = (HALF,) * len(told[2])
            weights = (2, 1)[:len(told[2])]
            self.assertEqual(module.told(), told)
            self.assertEqual(module.most(weights, amounts), door_most(told, weights, amounts))
            self.assertEqual(module.each(amounts), door_each(told, amounts))
            self.assertEqual(module.tariff(0), door_tariff(told, 0))
            self.assertIs(module.right(), is_right_module(told))
            self.assertIs(module.makes(amounts, goal), makes(told, amounts, goal))
            if has_twin(told):
                self.assertIsInstance(module.twin(), Module)
                self.assertEqual(module.twin().told(), twin_of(told))
                self.assertIs(module.like(module.twin()), True)
        with self.assertRaises(NoTwin):
            Module(*SPLIT).twin()
        self.assertIs(Module(*SPLIT).like(Module(*BOTH)), False)
        self.assertIs(Module(*SPLIT).like(Module(*SPLIT)), True)

    def test_same(self):
        module = Module(*SPLIT)
        self.assertTrue(module == Module(*SPLIT))
        for other in (Module(*BOTH), Module(SPLIT[0], (0,), (2, 1)), SPLIT, None, Book(3, *SPLIT[0][1]), 0,
                      Module(SPLIT[0], (), (1, 2)), Module((3, SPLIT[0][1][::-1]), (0,), (1, 2))):
            self.assertFalse(module == other)

    def test_wrong(self):
        for told, expected in (((None, (0,), (3,)), ("book", -1)), (([*FORK], None, None), ("book", -1)),
                               ((FORK, [0], (3,)), ("ins", -1)), ((FORK, (0, 1), None), ("ins", 1)),
                               ((FORK, (0,), ()), ("outs", -1)), ((FORK, (0,), (3, 3)), ("outs", 1)),
                               ((FORK, (0,), (0,)), ("outs", 0)), ((FORK, (True,), (3,)), ("ins", 0))):
            with self.assertRaises(NotUsable) as caught:
                Module(*told)
            self.assertEqual(fields(caught.exception), expected)
        module = Module(*SPLIT)
        for call, given, word in (
                (module.most, ((0, 0), None), "weights"), (module.most, ((0, 1), (ONE, ONE)), "amounts"),
                (module.each, (ONE,), "amounts"), (module.tariff, (2,), "door"), (module.tariff, (True,), "door"),
                (module.makes, (None, None), "amounts"), (module.makes, ((ONE,), (ONE,)), "goal"),
                (module.like, (BOTH,), "other"), (module.like, (Module(*FORKED),), "other"), (module.like, (None,), "other"),
                (module.like, (Module(SPLIT[0], (), (1, 2)),), "other")):
            with self.assertRaises(NotUsable) as caught:
                call(*given)
            self.assertEqual(fields(caught.exception), (word, -1))


class LinesTest(unittest.TestCase):
    def wrong(self, text, field):
        with self.assertRaises(InvalidText) as caught:
            read_module(text)
        self.assertEqual(fields(caught.exception), (0, field), text)
        self.assertIsInstance(caught.exception, TextError)

    def test_document(self):
        self.assertEqual(Module(TOOL, (0,), (2,)).line(), "0 > 2 | 3; 1 1 0 > 0 1 1")
        self.wrong("0 > - | 1", 2)

    def test_good(self):
        for told, line in (((BARE, (), (1, 0)), "- > 1 0 | 2"), ((BARE, (1,), (0,)), "1 > 0 | 2"),
                           ((SPRING, (), (0,)), "- > 0 | 1; 0 > 1"),
                           (TOOLED, "0 1 > 3 | 4; 0 1 0 0 > 0 0 1 0; 1 0 1 0 > 0 0 1 1")):
            self.assertEqual(Module(*told).line(), line)
            self.assertEqual(read_module(line).told(), told)
            self.assertIsInstance(read_module(line), Module)
        for module in rich_modules(60, 130):
            made = Module(*module)
            self.assertTrue(read_module(made.line()) == made)

    def test_fields(self):
        for text, field in (
                ("", 0), ("-", 1), ("- >", 2), ("- > 0", 3), ("- > 0 |", 4), ("- > 0 | 1;", 5), ("- - > 0 | 1", 1),
                ("0 - > 1 | 2", 1), ("> 0 | 1", 0), ("| 0", 0), ("0 | 1", 1), ("0 > | 2", 2), ("0 > 1 > 2", 3),
                ("0 > 1 - | 2", 3), ("0 > 1 | -", 4), ("0 > 1 | 2 3", 5), ("0 > 1 | 2; > 1", 5), ("0 > 1 | 2; 1 0 > ", 8),
                ("0 > 1 | 02", 4), ("00 > 1 | 2", 0), ("0 > 1; | 2", 2), ("0; > 1 | 2", 0), ("0  > 1 | 2", 1),
                (" 0 > 1 | 2", 0), ("0 > 1 | 2 ", 5), ("0 > 1 | 2; 1 0 > 0 1; ", 10), ("0 > 1 | 2; 1 0 > 0 1;", 10),
                ("0 > 1 | 2\n", 4), ("x", 0), ("0 > 1 | 2; 1 | 0", 6), ("-1 > 0 | 1", 0), ("0 > +1 | 2", 2)):
            self.wrong(text, field)

    def test_cut(self):
        line = "0 1 > 2 | 4; 1 0 0 1 > 0 0 1 1; 0 1 0 0 > 0 0 3 0"
        words = line.split(" ")
        self.assertEqual(read_module(line).line(), line)
        for many in range(len(words)):
            text = " ".join(words[:many])
            # A book's line may end behind its last number; it is no book then, or no module.
            if many >= 11 and not words[many - 1].endswith((";", ">")) and (many < 15 or many > 19):
                with self.assertRaises(InvalidRow):
                    read_module(text)
            else:
                self.wrong(text, many)
        for k in range(len(words)):
            self.wrong(" ".join(words[:k] + ["?"] + words[k + 1:]), k)

    def test_no_modules(self):
        for text in ("0 > 0 | 1", "0 0 > 1 | 2", "0 > 1 1 | 2", "0 > 2 | 2", "5 > 1 | 2", "- > 0 | 0", "0 > 1 | 2; 1 > 0 1",
                     "0 > 1 | 2; 0 1 > 0 1", "0 > 1 | 2; 0 0 > 1 0", "0 > 1 | 2; 1 0 0 > 0 1 0", "- > 0 | 1; 1 > 0",
                     "0 1 > 2 | 3; 1 1 0 > 0 1 1"):
            with self.assertRaises(InvalidRow) as caught:
                read_module(text)
            self.assertEqual(fields(caught.exception), (0,), text)
        for text in (None, 0, b"0", ("0",), True):
            with self.assertRaises(NotUsable) as caught:
                read_module(text)
            self.assertEqual(fields(caught.exception), ("text", -1))


if __name__ == "__main__":
    unittest.main()
