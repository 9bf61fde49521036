"""Points 91 and 92: logs done again, cut and told by days, texts of events and logs, the desk."""

import unittest

from stillhad.desk import desk_line
from stillhad.errors import InvalidEvent, InvalidRow, InvalidText, NotUsable, OutOfReach, TextError
from stillhad.eventtexts import event_line, log_text, read_event, read_log
from stillhad.journals import cut_log, days_of, replayed
from stillhad.live import LiveStore
from stillhad.liveasks import LiveAsks
from stillhad.quotients import less
from tests.helpers import ENDLESS, FILL, FORK, GROW, HALF, NOUGHT, ODD, ONE, SPRING, TOOL, TWO, WISH, fields
from tests.test_live import EVENTS, NO_EVENTS, Plain, some_stores

LINES = (
    (("bring", 0, (3, 2)), "bring 0 3/2"), (("do", 1, HALF), "do 1 1/2"),
    (("go", ((3, ((0, HALF),)), (1, ((2, ONE),)))), "go 3 0 1/2; 1 2 1"), (("go", ()), "go -"),
    (("go", ((10 ** 12, ((0, ONE), (7, (1, 9)))),)), "go 1000000000000 0 1 7 1/9"), (("hand", 3, ONE), "hand 3 1"),
    (("learn", (1, 0), (0, 1)), "learn 1 0 > 0 1"), (("learn", (12,), (0,)), "learn 12 > 0"), (("day",), "day"),
    (("do", 10 ** 20, (10 ** 12, 1)), "do 100000000000000000000 1000000000000"))


class JournalsTest(unittest.TestCase):
    def test_edges(self):
        store = replayed(FORK, WISH, FILL, ())
        self.assertIsInstance(store, LiveStore)
        self.assertTrue(store == LiveStore(FORK, WISH, FILL))
        log = (("do", 0, ONE), ("learn", (0, 1, 0, 0), WISH), ("do", 3, HALF))
        store = replayed(FORK, WISH, FILL, log)
        self.assertEqual((store.log(), store.stands()), (log, (ONE, HALF, NOUGHT, HALF)))
        self.assertEqual(cut_log(log, 0), ((), log))
        self.assertEqual(cut_log(log, 3), (log, ()))
        self.assertEqual(cut_log(log, 1), (log[:1], log[1:]))
        self.assertEqual(cut_log((), 0), ((), ()))
        self.assertEqual(cut_log((None, 3, "x"), 2), ((None, 3), ("x",)))

    def test_days(self):
        self.assertEqual(days_of(FORK, WISH, FILL, ()), ())
        self.assertEqual(days_of(FORK, WISH, FILL, (("day",), ("day",))), ((ONE, NOUGHT), (ONE, NOUGHT)))
        wish = (0, 0, 0, 2)
        log = (("do", 0, ONE), ("do", 1, ONE), ("do", 2, ONE), ("hand", 3, HALF), ("hand", 3, (1, 4)), ("day",), ("day",),
               ("hand", 3, (1, 4)), ("bring", 0, ONE), ("day",), ("learn", (1, 0, 0, 0), WISH), ("day",), ("do", 0, HALF))
        self.assertEqual(days_of(FORK, wish, FILL, log),
                         ((HALF, (3, 2)), (HALF, NOUGHT), (ONE, HALF), (TWO, NOUGHT)))
        self.assertEqual(days_of(GROW, (0, 1), (ONE, NOUGHT), (("do", 0, ONE), ("hand", 1, ONE), ("day",))), ((ENDLESS, ONE),))

    def test_all(self):
        days = 0
        for (book, wish, fill), store, log, chance in some_stores(80, 200):
            self.assertTrue(replayed(book, wish, fill, store.log()) == store)
            plainly = Plain(book, wish, fill, log)
            self.assertEqual(days_of(book, wish, fill, log), tuple(plainly.days))
            days += len(plainly.days) > 1
            many = chance.randint(0, len(log))
            first, behind = cut_log(log, many)
            self.assertEqual((len(first), first + behind), (many, log))
            part = replayed(book, wish, fill, first)
            part.do_all(behind)
            self.assertTrue(part == store)
            # What is promised behind a log (G13).
            self.assertFalse(less(store.still(), store.most()))
            if store.share() == ONE:
                self.assertEqual(store.still(), store.at_first())
        self.assertGreater(days, 15)

    def test_wrong(self):
        for call in (replayed, days_of):
            for wish, fill, log, word in (
                    ((0,) * 4, None, None, "wish"), (WISH, FILL[1:], None, "fill"), (WISH, [*FILL], (), "fill"),
                    (WISH, FILL, None, "log"), (WISH, FILL, [("day",)], "log"), (WISH, FILL, ("day",), "log"),
                    (WISH, FILL, (("do", 9, (9, 1)), ("day", 1)), "log"), (WISH, FILL, (("bring", 4, ONE),), "log")):
                with self.assertRaises(NotUsable) as caught:
                    call(FORK, wish, fill, log)
                self.assertEqual(fields(caught.exception), (word, -1))
            for event in NO_EVENTS:
                with self.assertRaises(NotUsable):
                    call(FORK, WISH, FILL, (("day",), event))
            for log, at, reason in (
                    ((("do", 0, TWO), ("do", 0, ONE), ("do", 9, ONE)), 1, "amount"), ((("do", 3, ONE),), 0, "deed"),
                    ((("day",), ("hand", 0, ONE)), 1, "ware"), ((("learn", WISH, WISH), ("do", 9, ONE)), 0, "wished"),
                    ((("go", ((2, ((0, ONE), (2, HALF))),)),), 0, "amount")):
                with self.assertRaises(InvalidEvent) as caught:
                    call(FORK, WISH, FILL, log)
                self.assertEqual(fields(caught.exception), (log[at], reason))
        for log, many, word in (([], 0, "log"), (None, None, "log"), ("day", 1, "log"), ({}, 0, "log"), (EVENTS, -1, "many"),
                                (EVENTS, len(EVENTS) + 1, "many"), (EVENTS, True, "many"), (EVENTS, None, "many"),
                                ((), 1, "many"), (EVENTS, "1", "many")):
            with self.assertRaises(NotUsable) as caught:
                cut_log(log, many)
            self.assertEqual(fields(caught.exception), (word, -1))


class Texts(unittest.TestCase):
    def wrong(self, text, field, read=read_event, line=0):
        with self.assertRaises(InvalidText) as caught:
            read(text)
        self.assertEqual(fields(caught.exception), (line, field), text)
        self.assertIsInstance(caught.exception, TextError)

    def uneven(self, text, read=read_event, line=0):
        with self.assertRaises(InvalidRow) as caught:
            read(text)
        self.assertEqual(fields(caught.exception), (line,), text)


class EventTextsTest(Texts):
    def test_lines(self):
        for event, line in LINES:
            self.assertEqual(event_line(event), line)
            self.assertEqual(read_event(line), event)
        for event in EVENTS:
            self.assertEqual(read_event(event_line(event)), event)

    def test_fields(self):
        for text, field in (
                ("", 0), ("x", 0), ("Day", 0), ("days", 0), (" day", 0), ("day ", 1), ("day 1", 1), ("day\n", 0), ("-", 0),
                ("bring", 1), ("bring 0", 2), ("bring 0 0", 2), ("bring 0 oo", 2), ("bring 0 2/4", 2), ("bring 00 1", 1),
                ("bring 0 1 1", 3), ("bring 0 1 ", 3), ("bring -1 1", 1), ("bring  0 1", 1), ("bring 1/2 1", 1),
                ("bring 0 1;", 2), ("hand", 1), ("hand 3", 2), ("hand 3 1/1", 2), ("hand - 1", 1), ("do", 1), ("do 1", 2),
                ("do 1 0/1", 2), ("do x 1", 1), ("do 1 1; 1", 2), ("go", 1), ("go ", 1), ("go - 1", 2), ("go -;", 1),
                ("go 0 1 1", 1), ("go 3", 2), ("go 3 0", 3), ("go 3 0 0", 3), ("go 3 0 1;", 4), ("go 3 0 1; 0 0 1", 4),
                ("go 3 0 1 1", 5), ("go 3; 0 1", 1), ("go 1 0 1/2 -", 4), ("go 01 0 1", 1), ("learn", 1), ("learn 1", 2),
                ("learn 1 >", 3), ("learn > 1", 1), ("learn 1 > 1 >", 4), ("learn 1 > 1; 1", 3), ("learn 1 > -", 3),
                ("learn 1/2 > 1", 1), ("learn 1 > 1 ", 4), ("learn 01 > 1", 1), ("learn 1 2 3", 4), ("learn - > -", 1),
                ("learn 1 > 0\n", 3), ("undo 1", 0), ("bring;", 0), ("day;", 0), ("most", 0)):
            self.wrong(text, field)
        for text in ("learn 1 > 0 1", "learn 1 0 > 0", "learn 0 0 0 > 0 0 0 0"):
            self.uneven(text)

    def test_cut(self):
        for event, line in LINES:
            words = line.split(" ")
            for k in range(len(words)):
                self.wrong(" ".join(words[:k] + ["?"] + words[k + 1:]), k)
                text = " ".join(words[:k])
                # A run or a take may end sooner and still be one.
                if line.startswith("learn 1 0 >") and k == 5:
                    self.uneven(text)
                elif line.startswith("go 1000000000000") and k == 4:
                    self.assertEqual(read_event(text), ("go", ((10 ** 12, ((0, ONE),)),)))
                else:
                    self.wrong(text, k)
            self.wrong(line + " ?", len(words))

    def test_logs(self):
        log = tuple(event for event, _ in LINES)
        text = "\n".join(line for _, line in LINES)
        self.assertEqual(log_text(log), text)
        self.assertEqual(read_log(text), log)
        self.assertEqual((log_text(()), read_log("")), ("", ()))
        self.assertEqual((log_text((("day",),)), read_log("day")), ("day", (("day",),)))
        self.wrong("day\n", 0, read_log, 1)
        self.wrong("\nday", 0, read_log, 0)
        self.wrong("day\n\nday", 0, read_log, 1)
        self.wrong("day\nbring 0 0\ngo", 2, read_log, 1)
        self.wrong("day\nday 1\nlearn 1 > 1 1", 1, read_log, 1)
        self.wrong("day\nlearn 1 > 1\ngo", 1, read_log, 2)
        self.uneven("day\nlearn 1 > 1 1\ngo", read_log, 1)
        self.uneven("learn 1 1 > 1", read_log, 0)
        self.wrong(text + "\n?", 0, read_log, len(LINES))

    def test_all(self):
        for _, store, log, _ in some_stores(60, 201):
            for event in log:
                self.assertEqual(read_event(event_line(event)), event)
            self.assertEqual(read_log(log_text(log)), log)
            self.assertEqual(log_text(log).split("\n"), [event_line(event) for event in log] or [""])

    def test_wrong(self):
        for event in NO_EVENTS + ODD:
            # What is none by its size alone is one of some size.
            if event in (("bring", 4, ONE), ("hand", 4, ONE)):
                self.assertEqual(event_line(event), f"{event[0]} 4 1")
                continue
            with self.assertRaises(NotUsable) as caught:
                event_line(event)
            self.assertEqual(fields(caught.exception), ("event", -1), event)
            with self.assertRaises(NotUsable) as caught:
                log_text((("day",), event))
            self.assertEqual(fields(caught.exception), ("log", -1), event)
        self.assertEqual(log_text((("bring", 9, ONE), ("learn", (1,), (2,)))), "bring 9 1\nlearn 1 > 2")
        for log in (None, [], [("day",)], ("day",), "", 0):
            with self.assertRaises(NotUsable) as caught:
                log_text(log)
            self.assertEqual(fields(caught.exception), ("log", -1))
        for text in (None, 0, b"day", ("day",), True):
            for read in (read_event, read_log):
                with self.assertRaises(NotUsable) as caught:
                    read(text)
                self.assertEqual(fields(caught.exception), ("text", -1))


class DeskTest(Texts):
    def store(self):
        store = LiveStore(FORK, WISH, FILL)
        store.do_all((("do", 0, TWO), ("bring", 2, ONE)))
        return store

    def test_document(self):
        store = self.store()
        self.assertEqual(desk_line(store, "cost 2 oo oo 1 oo"), "1")
        self.assertEqual(store.log(), (("do", 0, TWO), ("bring", 2, ONE)))

    def test_asked(self):
        store = self.store()
        for text, told in (("most", "1"), ("still", "1"), ("share", "0"), ("fill", "0 2 1 0"), ("right", "no"), ("grain 0", "0"),
                           ("grain 3", "0"), ("cost 1 oo oo oo oo", "0"), ("cost 3/2 5 oo 7/2 oo", "7/4"),
                           ("cost 0 0 0 0 0", "0"), ("cost 5/2 oo oo oo 2", "3")):
            self.assertEqual(desk_line(store, text), told, text)
        self.assertEqual(store.log(), (("do", 0, TWO), ("bring", 2, ONE)))
        with self.assertRaises(OutOfReach) as caught:
            desk_line(store, "cost 5/2 oo oo 1 oo")
        self.assertEqual(fields(caught.exception), ((ONE, ONE, NOUGHT, ONE),))
        tool = LiveStore(TOOL, (0, 0, 1), ((5, 2), NOUGHT, NOUGHT))
        for text, told in (("right", "yes"), ("grain 1", "5/2"), ("most", "0"), ("share", "1"), ("fill", "5/2 0 0")):
            self.assertEqual(desk_line(tool, text), told)
        grow = LiveStore(GROW, (0, 1), (NOUGHT, NOUGHT))
        self.assertEqual((desk_line(grow, "grain 0"), desk_line(grow, "grain 1")), ("oo", "0"))
        self.assertEqual(desk_line(grow, "bring 0 1/9"), "done")
        self.assertEqual((desk_line(grow, "grain 0"), desk_line(grow, "grain 1")), ("none", "none"))
        self.assertEqual((desk_line(grow, "most"), desk_line(grow, "still"), desk_line(grow, "cost 9 oo oo")), ("oo", "oo", "0"))
        self.assertEqual(desk_line(LiveStore(SPRING, (1,), (HALF,)), "share"), "1")

    def test_events(self):
        store = LiveStore(FORK, WISH, FILL)
        lines = ("bring 1 1/2", "do 0 1/2", "go 2 1 1/4; 1 0 1", "go -", "day", "learn 0 1 0 0 > 0 0 0 1", "do 3 1", "hand 3 1/2")
        for line in lines:
            self.assertEqual(desk_line(store, line), "done")
        self.assertEqual(log_text(store.log()), "\n".join(lines))
        self.assertTrue(store == replayed(FORK, WISH, FILL, read_log("\n".join(lines))))
        before = store.log()
        for line, event, reason in (
                ("hand 3 9", ("hand", 3, (9, 1)), "amount"), ("hand 0 1", ("hand", 0, ONE), "ware"),
                ("do 4 1", ("do", 4, ONE), "deed"), ("bring 4 1", ("bring", 4, ONE), "shape"),
                ("learn 1 > 0", ("learn", (1,), (0,)), "shape"), ("go 1 9 1", ("go", ((1, ((9, ONE),)),)), "deed"),
                ("learn 0 0 0 1 > 0 0 0 0", ("learn", WISH, (0,) * 4), "wished"), ("do 0 9", ("do", 0, (9, 1)), "amount")):
            with self.assertRaises(InvalidEvent) as caught:
                desk_line(store, line)
            self.assertEqual(fields(caught.exception), (event, reason))
        self.assertEqual(store.log(), before)

    def test_fields(self):
        store = self.store()

        def read(text):
            return desk_line(store, text)

        for text, field in (
                ("", 0), ("x", 0), ("Most", 0), (" most", 0), ("most ", 1), ("most 1", 1), ("still 0", 1), ("share share", 1),
                ("fill -", 1), ("right yes", 1), ("most\n", 0), ("mosts", 0), ("undo", 0), ("log", 0), ("grain", 1),
                ("grain ", 1), ("grain 4", 1), ("grain -1", 1), ("grain 01", 1), ("grain 1/2", 1), ("grain 1 2", 2),
                ("grain x 2", 1), ("grain 99999999999999999999", 1), ("grain 3 ", 2), ("cost", 1), ("cost oo 1 1 1 1", 1),
                ("cost x", 1), ("cost 1", 2), ("cost 1 1", 3), ("cost 1 1 1 1", 5), ("cost 1 1 1 1 1 1", 6),
                ("cost 1 1 1 1 1 x", 6), ("cost 1 1 1 x 1", 4), ("cost 1 1 1 x 1 1", 4), ("cost 1 1 - 1 1", 3),
                ("cost 2/4 1 1 1 1", 1), ("cost 1 1 1 1 1 ", 6), ("cost 1 1 1 1 00", 5), ("cost 1 x", 2), ("cost  1 1 1 1", 1),
                ("day 1", 1), ("bring 0", 2), ("do 0 0", 2), ("go 1 0 1;", 4), ("learn 1 > -", 3), ("hand", 1)):
            self.wrong(text, field, read)
        self.uneven("learn 1 0 0 0 > 0", read)
        self.assertEqual(store.log(), (("do", 0, TWO), ("bring", 2, ONE)))

    def test_wrong(self):
        store = self.store()
        for live in (None, FORK, LiveAsks(FORK, WISH, FILL), (FORK, WISH, FILL), "most", 0):
            for text in ("most", "?", None):
                with self.assertRaises(NotUsable) as caught:
                    desk_line(live, text)
                self.assertEqual(fields(caught.exception), ("live", -1))
        for text in (None, 0, b"most", ("most",), True, ["most"]):
            with self.assertRaises(NotUsable) as caught:
                desk_line(store, text)
            self.assertEqual(fields(caught.exception), ("text", -1))

    def test_all(self):
        # A store told by lines is the one told by events.
        for (book, wish, fill), store, log, chance in some_stores(40, 202):
            desk = LiveStore(book, wish, fill)
            for event in log:
                self.assertEqual(desk_line(desk, event_line(event)), "done")
            self.assertTrue(desk == store)
            ware = chance.randrange(book[0])
            grain = store.grain(ware)
            told = desk_line(desk, f"grain {ware}")
            self.assertEqual(told, "none" if grain is None else desk_line_price(grain))
            for word, price in (("most", store.most()), ("still", store.still()), ("share", store.share())):
                self.assertEqual(desk_line(desk, word), desk_line_price(price))
            self.assertEqual(desk_line(desk, "right"), "yes" if store.right() else "no")
            self.assertEqual(desk_line(desk, "fill"), " ".join(desk_line_price(amount) for amount in store.stands()))


def desk_line_price(price):
    top, bottom = price
    return "oo" if bottom == 0 else str(top) if bottom == 1 else f"{top}/{bottom}"


if __name__ == "__main__":
    unittest.main()
