"""Points 87 to 90: events and logs, reasons, the live store."""

import unittest
from fractions import Fraction
from random import Random

from stillhad.bookclasses import Book
from stillhad.buying import least_cost
from stillhad.errors import HadError, InvalidEvent, LiveError, NothingToUndo, NotUsable, OutOfReach
from stillhad.grains import grain_of
from stillhad.live import LiveStore
from stillhad.liveasks import LiveAsks
from stillhad.liveevents import is_event, is_log
from stillhad.mosts import most_of
from stillhad.quotients import less, plus, product
from stillhad.reasons import reason_of
from stillhad.rights import harmless_deeds, is_right
from stillhad.shares import sure_share
from tests.helpers import (
    BARE, ENDLESS, FILL, FORK, GROW, HALF, NOUGHT, ODD, ONE, SPRING, TOOL, TWO, WISH, can_be_done, fields, fraction,
    fractions, lively_books, moved, pair, pairs, plain, some_fill, some_wish)

LAPS = ((10 ** 12, ((0, (1, 10 ** 12)),)),)
EVENTS = (("bring", 0, HALF), ("do", 1, ONE), ("go", LAPS), ("go", ()), ("hand", 3, TWO), ("learn", (1, 0, 0, 0), WISH),
          ("learn", (0,) * 4, (0,) * 4), ("day",))
NO_EVENTS = (
    (), ("bring",), ("bring", 0), ("bring", 0, ONE, ONE), ("bring", 4, ONE), ("bring", -1, ONE), ("bring", True, ONE),
    ("bring", 0, NOUGHT), ("bring", 0, ENDLESS), ("bring", 0, (2, 4)), ("bring", 0, 1), ("bring", ONE, 0), ("bring", "0", ONE),
    ["bring", 0, ONE], ("hand", 4, ONE), ("hand", 0, NOUGHT), ("hand", 0), ("do", -1, ONE), ("do", True, ONE),
    ("do", 0, NOUGHT), ("do", 0, ENDLESS), ("do", 0), ("do", 0, ONE, 1), ("do", ((0, ONE),)), ("go",), ("go", None),
    ("go", [(1, ((0, ONE),))]), ("go", ((0, ((0, ONE),)),)), ("go", ((1, ()),)), ("go", ((1, ((-1, ONE),)),)),
    ("go", ((1, ((0, NOUGHT),)),)), ("go", (), ()), ("go", ((1, ((0, ONE),)), None)), ("learn", WISH), ("learn", (WISH, WISH)),
    ("learn", WISH, WISH[1:]), ("learn", WISH, (0, 0, 0, True)), ("learn", WISH, [0] * 4), ("learn", WISH, (0, 0, 0, -1)),
    ("learn", WISH, WISH, WISH), ("learn", (), ()), ("day", 0), ("day", ()), ["day"], "day", ("Day",), ("days",), (None,),
    (0, 0, ONE), (("day",),), ((), 0, ONE), ("bring", 0, (1, True)), (b"day",), ("",), ("undo", 1), (Book(1), 0, ONE))


class EventsTest(unittest.TestCase):
    def test_events(self):
        for event in EVENTS:
            self.assertIs(is_event(4, event), True, event)
        for thing in NO_EVENTS + ODD:
            self.assertIs(is_event(4, thing), False, thing)
        self.assertIs(is_event(5, ("bring", 4, ONE)), True)
        self.assertIs(is_event(1, ("do", 10 ** 30, ONE)), True)
        self.assertIs(is_event(1, ("go", ((1, ((10 ** 30, ONE),)),))), True)
        self.assertIs(is_event(1, ("learn", (3,), (0,))), True)

    def test_logs(self):
        self.assertIs(is_log(4, EVENTS), True)
        self.assertIs(is_log(4, ()), True)
        for event in NO_EVENTS:
            self.assertIs(is_log(4, (EVENTS[0], event)), False, event)
        for thing in (None, [*EVENTS], EVENTS[0], ("day",), "", 0, (("day",), None), {}):
            self.assertIs(is_log(4, thing), False)


class ReasonsTest(unittest.TestCase):
    def told(self, event, fill=(ONE, NOUGHT, ONE, HALF), book=FORK, wish=WISH):
        return reason_of(book, wish, fill, event)

    def test_none(self):
        for event in (("bring", 0, (10 ** 12, 1)), ("bring", 3, HALF), ("do", 0, ONE), ("go", LAPS), ("go", ()),
                      ("hand", 3, HALF), ("learn", (1, 2, 3, 0), WISH), ("learn", (0,) * 4, (0,) * 4), ("day",),
                      ("go", ((1, ((0, HALF), (2, HALF))),))):
            self.assertIsNone(self.told(event), event)

    def test_each(self):
        for thing in NO_EVENTS + ODD:
            self.assertEqual(self.told(thing), "shape", thing)
        for event, reason in (
                (("hand", 0, HALF), "ware"), (("hand", 2, TWO), "ware"), (("hand", 3, ONE), "amount"),
                (("do", 3, ONE), "deed"), (("do", 10 ** 30, TWO), "deed"), (("do", 0, TWO), "amount"),
                (("do", 2, (1, 9)), "amount"), (("go", ((1, ((0, TWO), (3, ONE))),)), "deed"),
                (("go", ((1, ((0, ONE),)), (1, ((9, ONE),)))), "deed"), (("go", ((1, ((0, TWO),)),)), "amount"),
                (("go", ((10 ** 12, ((0, HALF),)),)), "amount"), (("learn", (0, 0, 0, 1), (1, 0, 0, 0)), "wished"),
                (("learn", (1, 1, 1, 9), (0,) * 4), "wished")):
            self.assertEqual(self.told(event), reason, event)
        # Of two reasons the first one in the document's sequence.
        self.assertEqual(self.told(("hand", 0, TWO)), "ware")
        self.assertEqual(self.told(("hand", 4, TWO)), "shape")
        self.assertEqual(self.told(("learn", (0, 0, 0, 1), (True, 0, 0, 0))), "shape")
        self.assertEqual(self.told(("go", ((1, ((9, NOUGHT),)),))), "shape")
        # An end ware that is not wished is not handed, but a deed may be learnt that takes it.
        for event, reason in ((("hand", 0, ONE), "ware"), (("learn", (1, 0), (0, 1)), None), (("hand", 1, ONE), None),
                              (("learn", (0, 1), (0, 0)), "wished")):
            self.assertEqual(reason_of(BARE, (0, 3), (ONE, ONE), event), reason)
        self.assertIsNone(reason_of(SPRING, (1,), (NOUGHT,), ("do", 0, (10 ** 12, 1))))
        self.assertIsNone(reason_of(TOOL, (0, 0, 1), (ONE, ONE, NOUGHT), ("go", ((10 ** 6, ((0, (1, 10 ** 6)),)),))))

    def test_wrong(self):
        for wish, fill, word in (((0, 0, 0, 0), None, "wish"), (None, None, "wish"), ((1, 0, 0, 1), FILL, "wish"),
                                 (WISH, FILL[1:], "fill"), (WISH, [*FILL], "fill"), (WISH, None, "fill")):
            with self.assertRaises(NotUsable) as caught:
                reason_of(FORK, wish, fill, None)
            self.assertEqual(fields(caught.exception), (word, -1))


class Plain:
    """A store told plainly, in fractions, by its log alone."""

    def __init__(self, book, wish, fill, log):
        self.book, self.wish = book, wish
        self.amounts = fractions(fill)
        self.came = fractions(fill)
        self.handed = [Fraction(0)] * book[0]
        self.deeds = set()
        self.losses = []
        self.days = []
        day = Fraction(0)
        for place, event in enumerate(log):
            before = self.most()
            getattr(self, event[0])(*event[1:])
            if event[0] in ("do", "go") and less(self.most(), before):
                self.losses.append((place, before, self.most()))
            if event[0] == "hand":
                day += fraction(event[2]) * wish[event[1]]
            if event[0] == "day":
                self.days.append((self.most(), pair(day)))
                day = Fraction(0)

    def most(self):
        return most_of(self.book, self.wish, pairs(self.amounts))

    def bring(self, ware, amount):
        self.amounts[ware] += fraction(amount)
        self.came[ware] += fraction(amount)

    def hand(self, ware, amount):
        self.amounts[ware] -= fraction(amount)
        self.handed[ware] += fraction(amount)

    def do(self, deed, times):
        self.amounts = moved(self.amounts, self.book[1][deed], fraction(times))
        self.deeds.add(deed)

    def go(self, run):
        for turns, steps in run:
            for deed, times in steps:
                self.amounts = moved(self.amounts, self.book[1][deed], turns * fraction(times))
                self.deeds.add(deed)

    def learn(self, take, give):
        self.book = (self.book[0], self.book[1] + ((take, give),))

    def day(self):
        pass


def some_event(chance, book, wish, fill):
    """An event of the size, that often can be done."""
    word = chance.choice(("bring", "do", "do", "do", "go", "go", "hand", "learn", "day"))
    ware = chance.randrange(book[0])
    amount = pair(Fraction(chance.randint(1, 4), chance.randint(1, 6)))
    if word == "hand" and chance.random() < 0.8:
        ware = chance.choice([one for one in range(book[0]) if wish[one]])
    if word in ("bring", "hand"):
        return (word, ware, amount)
    if word == "do":
        return (word, chance.randint(0, len(book[1]) - (chance.random() < 0.9)), amount)
    if word == "go":
        return (word, tuple(
            (chance.randint(1, 3), tuple((chance.randrange(len(book[1])), (1, chance.randint(2, 12)))
                                         for _ in range(chance.randint(1, 2)))) for _ in range(chance.randint(0, 2))))
    if word == "learn":
        take = tuple(chance.choice((0, 0, 0, 1, 2)) if not own or chance.random() < 0.1 else 0 for own in wish)
        return (word, take, tuple(chance.choice((0, 0, 0, 0, 1)) for _ in wish))
    return (word,)


def some_stores(many, seed, events=10):
    """Stores and the logs that were done with them, one event at a time."""
    chance = Random(seed)
    for book in lively_books(many, seed, wares=4, deeds=3):
        wish = some_wish(chance, book)
        fill = some_fill(chance, book[0])
        store = LiveStore(book, wish, fill)
        log = []
        for _ in range(events):
            event = some_event(chance, store.book_now(), wish, store.stands())
            if event[0] == "learn" and len(store.book_now()[1]) > 5:
                continue
            if store.barred(event) is None:
                store.event(event)
                log.append(event)
        yield (book, wish, fill), store, tuple(log), chance


class AsksTest(unittest.TestCase):
    def test_first(self):
        for kind in (LiveAsks, LiveStore):
            asks = kind(FORK, WISH, FILL)
            self.assertEqual((asks.stands(), asks.book_now(), asks.came()), (FILL, FORK, FILL))
            self.assertEqual((asks.handed(), asks.done(), asks.losses()), ((NOUGHT,) * 4, (), ()))
            self.assertEqual((asks.most(), asks.still(), asks.at_first(), asks.share()), (ONE,) * 4)
            self.assertIs(asks.right(), False)
            self.assertEqual(asks.grain(1), grain_of(FORK, WISH, FILL, 1))
            self.assertEqual(asks.cost(TWO, (ONE,) * 4), least_cost(FORK, WISH, FILL, TWO, (ONE,) * 4))
            with self.assertRaises(OutOfReach) as caught:
                asks.cost(TWO, (ENDLESS,) * 4)
            self.assertEqual(fields(caught.exception), ((HALF, HALF, HALF, ONE),))
        self.assertTrue(issubclass(LiveStore, LiveAsks))
        self.assertIs(LiveAsks(TOOL, (0, 0, 1), (ONE, NOUGHT, NOUGHT)).right(), True)
        self.assertIsNone(LiveAsks(GROW, (0, 1), (ONE, ONE)).grain(0))
        self.assertEqual(LiveAsks(GROW, (0, 1), (NOUGHT, ONE)).grain(0), ENDLESS)
        self.assertEqual(LiveAsks(GROW, (0, 1), (ONE, ONE)).still(), ENDLESS)

    def test_wrong(self):
        for kind in (LiveAsks, LiveStore):
            for book, wish, fill, word in (
                    (None, WISH, FILL, "book"), ([*FORK], None, None, "book"), ((0, ()), None, None, "book"),
                    (Book(1), None, None, "book"), (FORK, (1, 0, 0, 1), None, "wish"), (FORK, None, FILL, "wish"),
                    (FORK, WISH, FILL[1:], "fill"), (FORK, WISH, [*FILL], "fill"), (BARE, (0, 1), (ONE, ENDLESS), "fill")):
                with self.assertRaises(NotUsable) as caught:
                    kind(book, wish, fill)
                self.assertEqual(fields(caught.exception), (word, -1))
            asks = kind(FORK, WISH, FILL)
            for call, given, word in ((asks.grain, (4,), "ware"), (asks.grain, (True,), "ware"), (asks.grain, (None,), "ware"),
                                      (asks.cost, (ENDLESS, None), "worth"), (asks.cost, (1, None), "worth"),
                                      (asks.cost, (ONE, FILL[1:]), "costs"), (asks.cost, (ONE, (1,) * 4), "costs")):
                with self.assertRaises(NotUsable) as caught:
                    call(*given)
                self.assertEqual(fields(caught.exception), (word, -1))


class StoreTest(unittest.TestCase):
    def barred(self, store, event, reason, call, *given):
        """The event can't be done, for this reason, and nothing has changed."""
        before = (store.stands(), store.book_now(), store.log())
        self.assertEqual(store.barred(event), reason)
        for one, values in ((call, given), (store.event, (event,))):
            with self.assertRaises(InvalidEvent) as caught:
                one(*values)
            self.assertEqual(fields(caught.exception), (event, reason))
            self.assertIsInstance(caught.exception, LiveError)
        self.assertEqual((store.stands(), store.book_now(), store.log()), before)

    def test_document(self):
        store = LiveStore(FORK, WISH, FILL)
        self.assertIsNone(store.do_all((("do", 0, TWO), ("bring", 2, ONE))))
        self.assertEqual((store.at_first(), store.share(), store.losses()), ((3, 2), NOUGHT, ((0, ONE, NOUGHT),)))

    def test_events(self):
        store = LiveStore(FORK, WISH, FILL)
        self.assertIsNone(store.bring(1, HALF))
        self.assertIsNone(store.do(0, HALF))
        self.assertEqual(store.stands(), ((3, 2), ONE, NOUGHT, NOUGHT))
        self.assertIsNone(store.go(((10 ** 12, ((1, (1, 10 ** 12)),)),)))
        self.assertEqual(store.stands(), (HALF, ONE, ONE, NOUGHT))
        self.assertIsNone(store.day())
        self.assertIsNone(store.event(("do", 2, (3, 4))))
        self.assertIsNone(store.hand(3, HALF))
        self.assertEqual(store.stands(), (HALF, (1, 4), (1, 4), (1, 4)))
        self.assertIsNone(store.learn((0, 1, 0, 0), (0, 0, 0, 2)))
        self.assertEqual(store.book_now(), (4, FORK[1] + (((0, 1, 0, 0), (0, 0, 0, 2)),)))
        self.assertIsNone(store.do(3, (1, 8)))
        log = (("bring", 1, HALF), ("do", 0, HALF), ("go", ((10 ** 12, ((1, (1, 10 ** 12)),)),)), ("day",), ("do", 2, (3, 4)),
               ("hand", 3, HALF), ("learn", (0, 1, 0, 0), (0, 0, 0, 2)), ("do", 3, (1, 8)))
        self.assertEqual(store.log(), log)
        self.assertEqual(store.done(), (0, 1, 2, 3))
        self.assertEqual((store.came(), store.handed()), ((TWO, HALF, NOUGHT, NOUGHT), (NOUGHT, NOUGHT, NOUGHT, HALF)))
        # In the book now, in which each of ware 1 becomes two.
        self.assertEqual(store.stands(), (HALF, (1, 8), (1, 4), HALF))
        self.assertEqual((store.most(), store.still(), store.at_first()), ((7, 4), (9, 4), (5, 1)))
        self.assertEqual(store.share(), sure_share(store.book_now(), WISH, (0, 1, 2, 3)))
        # Each deed lost nothing by the book of its time.
        self.assertEqual(store.losses(), ())

    def test_losses(self):
        store = LiveStore(FORK, WISH, FILL)
        store.do(0, (3, 2))
        store.learn((0, 1, 0, 0), (0, 0, 0, 1))
        store.do(1, HALF)
        store.go(((1, ((2, HALF),)),))
        self.assertEqual(store.stands(), (NOUGHT, ONE, NOUGHT, HALF))
        # Place 2 lost by the book with the deed learnt; place 3 did not, by either.
        self.assertEqual(store.losses(), ((0, ONE, HALF), (2, TWO, (3, 2))))
        store.undo(2)
        self.assertEqual(store.losses(), ((0, ONE, HALF),))
        store.undo(2)
        self.assertEqual((store.losses(), store.done(), store.share()), ((), (), ONE))
        # Where the most is endless before and behind, nothing is lost; where it ends, that is a loss.
        store = LiveStore(GROW, (0, 1), (ONE, NOUGHT))
        store.do(0, ONE)
        self.assertEqual(store.losses(), ())
        store.learn((1, 0), (0, 0))
        store.do(1, HALF)
        self.assertEqual(store.losses(), ())
        store.do(1, HALF)
        self.assertEqual(store.losses(), ((3, ENDLESS, TWO),))

    def test_barred(self):
        store = LiveStore(FORK, WISH, (ONE, NOUGHT, NOUGHT, ONE))
        self.barred(store, ("bring", 4, ONE), "shape", store.bring, 4, ONE)
        self.barred(store, ("bring", None, []), "shape", store.bring, None, [])
        self.barred(store, ("hand", 0, TWO), "ware", store.hand, 0, TWO)
        self.barred(store, ("hand", 3, TWO), "amount", store.hand, 3, TWO)
        self.barred(store, ("do", 3, ONE), "deed", store.do, 3, ONE)
        self.barred(store, ("do", 0, TWO), "amount", store.do, 0, TWO)
        self.barred(store, ("do", 0, NOUGHT), "shape", store.do, 0, NOUGHT)
        self.barred(store, ("go", LAPS * 2), "amount", store.go, LAPS * 2)
        self.barred(store, ("go", ((1, ((3, ONE),)),)), "deed", store.go, ((1, ((3, ONE),)),))
        self.barred(store, ("go", None), "shape", store.go, None)
        self.barred(store, ("learn", WISH, WISH), "wished", store.learn, WISH, WISH)
        self.barred(store, ("learn", WISH, (1,)), "shape", store.learn, WISH, (1,))
        for thing in NO_EVENTS + ODD:
            self.barred(store, thing, "shape", store.event, thing)
        for event in (("bring", 0, ONE), ("do", 0, ONE), ("go", LAPS), ("go", ()), ("hand", 3, ONE), ("day",)):
            self.assertIsNone(store.barred(event))
        self.assertEqual(store.log(), ())
        # The reason is asked for by the book and the fill now.
        store.learn((0,) * 4, (1, 0, 0, 0))
        self.assertIsNone(store.barred(("do", 3, ONE)))
        store.do(3, TWO)
        self.assertIsNone(store.barred(("do", 0, (3, 1))))
        event = ["day"]
        with self.assertRaises(InvalidEvent) as caught:
            store.event(event)
        self.assertIs(caught.exception.event, event)

    def test_do_all(self):
        events = (("do", 0, ONE), ("day",), ("do", 0, TWO), ("bring", 0, ONE))
        for keep in (False, 1, None, "True", (True,), [True], 0):
            store = LiveStore(FORK, WISH, FILL)
            store.day()
            before = (store.stands(), store.log())
            with self.assertRaises(InvalidEvent) as caught:
                store.do_all(events, keep)
            self.assertEqual(fields(caught.exception), (("do", 0, TWO), "amount"))
            self.assertEqual((store.stands(), store.log()), before)
        store = LiveStore(FORK, WISH, FILL)
        with self.assertRaises(InvalidEvent) as caught:
            store.do_all(events=events, keep=True)
        self.assertEqual(store.log(), events[:2])
        self.assertEqual(store.stands(), (ONE, ONE, NOUGHT, NOUGHT))
        self.assertIsNone(store.do_all(()))
        self.assertIsNone(store.do_all(events[3:] + events[:1]))
        self.assertEqual(store.log(), events[:2] + events[3:] + events[:1])
        bad = object()
        with self.assertRaises(InvalidEvent) as caught:
            store.do_all((("day",), bad, None))
        self.assertIs(caught.exception.event, bad)
        self.assertEqual(caught.exception.reason, "shape")

    def test_tried(self):
        store = LiveStore(FORK, WISH, FILL)
        store.bring(3, ONE)
        before = (store.stands(), store.book_now(), store.log())
        self.assertEqual(store.tried(()), store.stands())
        self.assertEqual(store.tried((("do", 0, TWO), ("learn", WISH[::-1], WISH), ("hand", 3, ONE))),
                         (NOUGHT, TWO, NOUGHT, NOUGHT))
        self.assertEqual((store.stands(), store.book_now(), store.log()), before)
        with self.assertRaises(InvalidEvent) as caught:
            store.tried((("do", 0, TWO), ("learn", WISH[::-1], WISH), ("do", 3, ONE)))
        self.assertEqual(fields(caught.exception), (("do", 3, ONE), "amount"))
        self.assertEqual((store.stands(), store.book_now(), store.log()), before)

    def test_undo(self):
        store = LiveStore(FORK, WISH, FILL)
        states = []
        for event in (("bring", 0, ONE), ("do", 0, TWO), ("learn", (0, 1, 0, 0), WISH), ("do", 3, ONE), ("hand", 3, HALF),
                      ("day",), ("go", ((2, ((1, HALF),)),))):
            states.append((store.stands(), store.book_now(), store.log(), store.came(), store.handed(), store.done(),
                           store.losses(), store.still(), store.share()))
            store.event(event)
        full = store.log()
        self.assertIsNone(store.undo(0))
        self.assertEqual(store.log(), full)
        for steps in (8, 9, 10 ** 30):
            with self.assertRaises(NothingToUndo) as caught:
                store.undo(steps)
            self.assertEqual(fields(caught.exception), (steps,))
            self.assertIsInstance(caught.exception, LiveError)
            self.assertEqual(store.log(), full)
        for state in reversed(states):
            self.assertIsNone(store.undo())
            self.assertEqual((store.stands(), store.book_now(), store.log(), store.came(), store.handed(), store.done(),
                              store.losses(), store.still(), store.share()), state)
        with self.assertRaises(NothingToUndo) as caught:
            store.undo()
        self.assertEqual(fields(caught.exception), (1,))
        self.assertIsNone(store.undo(0))
        store.do_all(full)
        store.undo(steps=7)
        self.assertEqual((store.stands(), store.log()), (FILL, ()))

    def test_same(self):
        def store(book=FORK, wish=WISH, fill=FILL, events=(("bring", 0, ONE),)):
            made = LiveStore(book, wish, fill)
            made.do_all(events)
            return made

        one = store()
        self.assertTrue(one == store())
        self.assertTrue(store((4, FORK[1]), events=()) == store(events=()))
        more = (4, FORK[1] + (((0,) * 4, (0,) * 4),))
        for other in (store(more), store(wish=(0, 0, 0, 2)), store(fill=(ONE, NOUGHT, NOUGHT, NOUGHT)), store(events=()),
                      store(fill=((3, 1), NOUGHT, NOUGHT, NOUGHT), events=()), store(events=(("bring", 0, ONE), ("day",))),
                      store(events=(("bring", 0, HALF), ("bring", 0, HALF))), LiveAsks(FORK, WISH, FILL), None, 0, FORK,
                      store(fill=((5, 2), NOUGHT, NOUGHT, NOUGHT), events=(("bring", 0, HALF),))):
            self.assertFalse(one == other)
        # What was undone does not count, nor does the first book by itself.
        one.do(0, ONE)
        one.undo()
        self.assertTrue(one == store())
        learnt = ("learn", (0,) * 4, (0,) * 4)
        self.assertTrue(store(events=(learnt,)) == store(events=(learnt,)))
        self.assertFalse(store(events=(learnt,)) == store(more, events=()))

    def test_wrong(self):
        store = LiveStore(FORK, WISH, FILL)
        for events in (None, [("day",)], 0, "", ("day",)[0], {}):
            for call in (store.do_all, store.tried):
                with self.assertRaises(NotUsable) as caught:
                    call(events)
                self.assertEqual(fields(caught.exception), ("events", -1))
        for steps in (-1, True, False, None, "1", (1,), ONE):
            with self.assertRaises(NotUsable) as caught:
                store.undo(steps)
            self.assertEqual(fields(caught.exception), ("steps", -1))
        self.assertEqual(store.log(), ())

    def test_all(self):
        lost = handed = learnt = 0
        for (book, wish, fill), store, log, chance in some_stores(150, 190):
            self.assertEqual(store.log(), log)
            plainly = Plain(book, wish, fill, log)
            self.assertEqual(store.stands(), pairs(plainly.amounts))
            self.assertEqual(store.book_now(), plainly.book)
            self.assertEqual(store.came(), pairs(plainly.came))
            self.assertEqual(store.handed(), pairs(plainly.handed))
            self.assertEqual(store.done(), tuple(sorted(plainly.deeds)))
            self.assertEqual(store.losses(), tuple(plainly.losses))
            self.assertEqual(store.most(), plainly.most())
            worth = sum(amount * number for amount, number in zip(plainly.handed, wish))
            self.assertEqual(store.still(), plus(plainly.most(), pair(worth)))
            self.assertEqual(store.at_first(), most_of(plainly.book, wish, pairs(plainly.came)))
            self.assertEqual(store.share(), sure_share(plainly.book, wish, store.done()))
            self.assertIs(store.right(), is_right(plainly.book, wish))
            ware = chance.randrange(book[0])
            self.assertEqual(store.grain(ware), grain_of(plainly.book, wish, store.stands(), ware))
            lost += len(plainly.losses) > 0
            handed += worth > 0
            learnt += plainly.book != book
            # What is promised (G13).
            self.assertFalse(less(store.still(), product(store.share(), store.at_first())))
            if set(store.done()) <= set(harmless_deeds(plainly.book, wish)):
                self.assertEqual(store.still(), store.at_first())
            # Undone by some steps, all is told as of the shorter log.
            steps = chance.randint(0, len(log))
            store.undo(steps)
            again = LiveStore(book, wish, fill)
            again.do_all(log[:len(log) - steps])
            self.assertTrue(store == again)
            self.assertEqual(store.losses(), again.losses())
        self.assertGreater(min(lost, handed, learnt), 15)

    def test_steps(self):
        # Events that can't be done change nothing, whichever they are.
        chance = Random(191)
        refused = 0
        for (book, wish, fill), store, log, _ in some_stores(60, 192, events=4):
            for _ in range(6):
                event = some_event(chance, store.book_now(), wish, store.stands())
                before = (store.stands(), store.book_now(), store.log())
                reason = reason_of(store.book_now(), wish, store.stands(), event)
                self.assertEqual(store.barred(event), reason)
                if reason is None:
                    continue
                with self.assertRaises(HadError):
                    store.event(event)
                with self.assertRaises(InvalidEvent):
                    store.tried((("day",), event))
                self.assertEqual((store.stands(), store.book_now(), store.log()), before)
                refused += 1
        self.assertGreater(refused, 50)

    def test_runs(self):
        # A run is done at once if it can be done, by its first and last turns.
        chance = Random(193)
        counts = [0, 0]
        for (book, wish, fill), store, log, _ in some_stores(60, 194, events=3):
            deeds = chance.sample(range(len(store.book_now()[1])), chance.randint(1, 2))
            run = ((10 ** 12, tuple((deed, (1, chance.choice((1, 3, 20)) * 10 ** 12)) for deed in deeds)),)
            can, end = can_be_done(store.book_now(), store.stands(), run)
            self.assertEqual(store.barred(("go", run)), None if can else "amount")
            counts[can] += 1
            if can:
                store.go(run)
                self.assertEqual(store.stands(), end)
        self.assertGreater(min(counts), 5)

    def test_asked_only(self):
        # Asking changes nothing, and a second answer is the same.
        for (book, wish, fill), store, log, _ in some_stores(20, 195):
            for _ in range(2):
                told = [(ask.__name__, ask()) for ask in (
                    store.stands, store.book_now, store.came, store.handed, store.most, store.still, store.at_first,
                    store.done, store.share, store.losses, store.right, store.log)]
                self.assertEqual(told, [(name, getattr(store, name)()) for name, _ in told])
            self.assertEqual(plain(store.most()), plain(most_of(store.book_now(), wish, store.stands())))


if __name__ == "__main__":
    unittest.main()
