"""Each judged parameter is refused under its name, the first one first, by position or by name."""

import importlib
import unittest
from copy import deepcopy
from itertools import combinations

from stillhad.bookclasses import Book
from stillhad.errors import BookError, HadError, NotUsable
from stillhad.runclasses import Shelf
from tests.helpers import ENDLESS, FILL, FORK, HALF, NOUGHT, ONE, TWO, WISH, fields

RUN = ((2, ((0, HALF), (1, HALF))),)
NOT_QUOTIENTS = ((2, 4), (0, 2), (1, 0), (0, 0), (-1, 2), (1, -2), (True, 1), (1, True), (1,), (1, 1, 1), [1, 1],
                 ("1", 1), 1, None, "1", ())
NOT_PRICES = ((2, 0), (0, 0), (2, 4), (-1, 0), (True, 0), (1, False), (1,), (1, 0, 0), [1, 0], None, "oo", ())


def bent(good, odd):
    """The tuple good made a list, too short, too long, with odd elements."""
    return [list(good), good[:-1], good + good[:1], None, "", 0] + [good[:-1] + (one,) for one in odd]


BAD = {
    "top": (-1, True, None, "1", (1,), [1]),
    "bottom": (0, -1, True, None, "1"),
    "quotient": NOT_QUOTIENTS,
    "above": NOT_QUOTIENTS + (NOUGHT,),
    "price": NOT_PRICES,
    "deed": (-1, 3, True, False, None, "0", (0,), 10 ** 30),
    "ware": (-1, 4, True, False, None, "0", (0,)),
    "end": (-1, 4, 0, True, None, "3", (3,)),
    "lot": ([0], (1, 0), (0, 0), (4,), (-1,), (True,), ("0",), 0, None, "01", {0}),
    "fill": bent(FILL, NOT_QUOTIENTS),
    "row": bent(FILL, NOT_PRICES),
    "flux": bent(FILL[:3], NOT_QUOTIENTS),
    "wish": ((0, 0, 0, 0), (1, 0, 0, 1), (0, 0, 1), (0, 0, 0, 1, 0), [0, 0, 0, 1], (0, 0, 0, True), (False, 0, 0, 1),
             (0, 0, 0, -1), (0, 0, 0, (1, 1)), None, 1, "0001"),
    "run": (None, [], ((0, ((0, ONE),)),), ((1, ()),), ((1, ((0, NOUGHT),)),), ((1, ((3, ONE),)),), 0, "-",
            ((True, ((0, ONE),)),), ((1, [(0, ONE)]),), (1, ((0, ONE),)), ((1, ((0, (2, 4)),)),), ((1, ((0,),)),),
            ([1, ((0, ONE),)],), ((1, ((True, ONE),)),), ((1, ((0, ONE), None)),), RUN + (None,), ((1, (0, ONE)),)),
    "text": (None, 0, b"1", ("1",), ["1"], True),
    "numbers": bent(WISH, (-1, True, None, "0", (0, 1))),
    "many": (0, -1, True, None, "1", (1,)),
    "order": ((0, 1, 2), (0, 1, 2, 3, 4), (0, 1, 2, 2), (1, 2, 3, 4), [0, 1, 2, 3], (False, True, 2, 3), None,
              (0, 1, 2, None)),
    "places": ((0, 1), (0, 1, 2, 3), (0, 1, 1), (1, 2, 3), [0, 1, 2], (False, 1, 2), None, (0, 1, "2")),
    "book": (None, (), (4,), (4, []), [4, ()], (0, ()), (True, ()), ("4", ()), (4, (((1,), (1,)),)), (4, (), ())),
    "same": (None, (3, ()), [4, ()], (4, []), (4, ((WISH, WISH[1:]),)), (5, ())),
}
BAD["weights"] = bent((ONE, HALF), NOT_QUOTIENTS)
BAD["smaller"] = bent((ONE, NOUGHT), NOT_QUOTIENTS + (ONE,))
BAD["two"] = bent((ONE, NOUGHT), NOT_QUOTIENTS)
BAD["two prices"] = bent((ONE, NOUGHT), NOT_PRICES)
BAD["less"] = NOT_QUOTIENTS + ((3, 1), (3, 2))

# File, function, what is passed in as stated, and then parameter, kind and a good value of each judged one.
CASES = (
    ("quotients", "quotient_of", {}, (("top", "top", 0), ("bottom", "bottom", 5))),
    ("quotients", "plus", {"one": ONE}, (("other", "price", ENDLESS),)),
    ("quotients", "product", {"one": ONE}, (("other", "price", ENDLESS),)),
    ("quotients", "less", {"one": ONE}, (("other", "price", ENDLESS),)),
    ("quotients", "minus", {"one": ONE}, (("other", "less", ONE),)),
    ("quotients", "over", {"one": ONE}, (("other", "above", TWO),)),
    ("rowsums", "priced", {"row": (ENDLESS, ONE)}, (("fill", "two", (ONE, ONE)),)),
    ("rowsums", "row_plus", {"row": (ENDLESS, ONE)}, (("other", "two prices", (ONE, ENDLESS)),)),
    ("rowsums", "row_times", {"row": (ENDLESS, ONE)}, (("factor", "quotient", NOUGHT),)),
    ("rowsums", "row_below", {"row": (ENDLESS, ONE)}, (("other", "two prices", (ONE, ENDLESS)),)),
    ("rowsums", "row_mixed", {"rows": ((ONE,), (ONE,))}, (("weights", "weights", (ONE, NOUGHT)),)),
    ("rowsums", "fill_plus", {"fill": (ONE, HALF)}, (("other", "two", (ONE, HALF)),)),
    ("rowsums", "fill_minus", {"fill": (ONE, HALF)}, (("other", "smaller", (ONE, HALF)),)),
    ("rowsums", "fill_times", {"fill": (ONE, HALF)}, (("factor", "quotient", NOUGHT),)),
    ("rowsums", "fill_below", {"fill": (ONE, HALF)}, (("other", "two", (ONE, HALF)),)),
    ("books", "change_of", {"book": FORK}, (("deed", "deed", 2),)),
    ("books", "takers_of", {"book": FORK}, (("ware", "ware", 3),)),
    ("books", "givers_of", {"book": FORK}, (("ware", "ware", 3),)),
    ("books", "tools_of", {"book": FORK}, (("deed", "deed", 2),)),
    ("books", "within_of", {"book": FORK}, (("lot", "lot", ()),)),
    ("bookchanges", "with_deed", {"book": FORK}, (("take", "numbers", WISH), ("give", "numbers", WISH))),
    ("bookchanges", "without_deed", {"book": FORK}, (("deed", "deed", 0),)),
    ("bookchanges", "with_all", {"book": FORK}, (("other", "same", FORK),)),
    ("bookchanges", "kept_to", {"book": FORK}, (("lot", "lot", (0, 3)),)),
    ("bookchanges", "scaled", {"book": FORK}, (("deed", "deed", 0), ("many", "many", 1))),
    ("bookchanges", "renamed", {"book": FORK}, (("order", "order", (3, 1, 2, 0)),)),
    ("bookchanges", "shuffled", {"book": FORK}, (("places", "places", (2, 1, 0)),)),
    ("bookchanges", "beside", {"book": FORK}, (("other", "book", (1, ())),)),
    ("wishes", "unit_wish", {"book": FORK}, (("ware", "end", 3),)),
    ("wishes", "wished_wares", {"book": FORK}, (("wish", "wish", WISH),)),
    ("wishes", "worth_of", {"book": FORK}, (("wish", "wish", WISH), ("fill", "fill", FILL))),
    ("textreadings", "read_price", {}, (("text", "text", "1"),)),
    ("textreadings", "read_row", {}, (("text", "text", "1 oo"),)),
    ("textreadings", "read_fill", {}, (("text", "text", "1"),)),
    ("textreadings", "read_book", {}, (("text", "text", "1"),)),
    ("stepping", "can_do", {"book": FORK}, (("fill", "fill", FILL), ("deed", "deed", 0))),
    ("stepping", "most_times", {"book": FORK}, (("fill", "fill", FILL), ("deed", "deed", 0))),
    ("stepping", "after_step", {"book": FORK},
     (("fill", "fill", FILL), ("deed", "deed", 0), ("times", "above", HALF))),
    ("stepping", "fill_by", {"book": FORK}, (("fill", "fill", FILL), ("flux", "flux", (ONE, NOUGHT, NOUGHT)))),
    ("runkinds", "flux_of", {"book": FORK}, (("run", "run", RUN),)),
    ("runkinds", "run_times", {"book": FORK}, (("run", "run", RUN), ("times", "above", HALF))),
    ("runkinds", "steps_in", {"book": FORK}, (("run", "run", RUN),)),
    ("runkinds", "run_line", {"book": FORK}, (("run", "run", RUN),)),
    ("runkinds", "read_run", {"book": FORK}, (("text", "text", "-"),)),
    ("running", "stuck_at", {"book": FORK}, (("fill", "fill", FILL), ("run", "run", RUN))),
    ("running", "end_of", {"book": FORK}, (("fill", "fill", FILL), ("run", "run", RUN))),
    ("running", "lowest_of", {"book": FORK}, (("fill", "fill", FILL), ("run", "run", RUN))),
    ("running", "worths_along", {"book": FORK},
     (("wish", "wish", WISH), ("fill", "fill", FILL), ("run", "run", RUN))),
    ("lots", "closed_from", {"book": FORK}, (("lot", "lot", (0, 3)),)),
    ("lots", "is_closed", {"book": FORK}, (("lot", "lot", (0, 3)),)),
    ("openings", "opening_of", {"book": FORK}, (("lot", "lot", (0, 3)),)),
    ("openings", "lets_opening", {"book": FORK, "thing": (0, 1)}, (("lot", "lot", (0, 3)),)),
    ("openings", "opening_run", {"book": FORK}, (("fill", "fill", FILL), ("near", "above", HALF))),
    ("traps", "is_trap", {"book": FORK}, (("lot", "lot", (0, 3)),)),
    ("traps", "trap_within", {"book": FORK}, (("lot", "lot", (0, 3)),)),
    ("closings", "closing_of", {"book": FORK}, (("lot", "lot", (0, 3)),)),
    ("closings", "lets_closing", {"book": FORK, "thing": (2,)}, (("lot", "lot", (0, 3)),)),
    ("closings", "closing_run", {"book": FORK}, (("fill", "fill", FILL), ("near", "above", HALF))),
    ("straights", "is_straight", {"book": FORK}, (("fill", "fill", FILL), ("flux", "flux", (ONE, ONE, NOUGHT)))),
    ("straights", "straight_run", {"book": FORK}, (("fill", "fill", FILL), ("flux", "flux", (ONE, HALF, NOUGHT)))),
    ("rests", "at_rest", {"book": FORK}, (("fill", "fill", FILL),)),
    ("rests", "rest_run", {"book": FORK}, (("fill", "fill", FILL),)),
    ("pricekinds", "never_rises", {"book": FORK}, (("row", "row", FILL),)),
    ("pricekinds", "never_falls", {"book": FORK}, (("row", "row", FILL),)),
    ("pricekinds", "keeps", {"book": FORK}, (("deed", "deed", 0), ("row", "row", FILL))),
    ("pricekinds", "is_price_row", {"book": FORK, "thing": None}, (("wish", "wish", WISH),)),
    ("mosts", "most_of", {"book": FORK}, (("wish", "wish", WISH), ("fill", "fill", FILL))),
    ("pricepapers", "price_paper", {"book": FORK}, (("wish", "wish", WISH), ("fill", "fill", FILL))),
    ("pricepapers", "lets_price", {"book": FORK, "thing": (ONE,) * 4},
     (("wish", "wish", WISH), ("fill", "fill", FILL))),
    ("fluxpapers", "flux_paper", {"book": FORK}, (("wish", "wish", WISH), ("fill", "fill", FILL))),
    ("fluxpapers", "lets_flux", {"book": FORK, "thing": ((1, 0, 2), (NOUGHT,) * 3)},
     (("wish", "wish", WISH), ("fill", "fill", FILL))),
    ("endlesspapers", "endless_paper", {"book": FORK}, (("wish", "wish", WISH), ("fill", "fill", FILL))),
    ("endlesspapers", "lets_endless", {"book": FORK, "thing": ((1, 0, 2), (NOUGHT,) * 3)},
     (("wish", "wish", WISH), ("fill", "fill", FILL))),
    ("runfors", "run_for", {"book": FORK},
     (("wish", "wish", WISH), ("fill", "fill", FILL), ("worth", "quotient", HALF))),
)


def all_cases():
    for file, name, given, judged in CASES:
        yield getattr(importlib.import_module("stillhad." + file), name), given, judged
    yield Book, {}, (("size", "many", 4),)
    book = Book(*(FORK[0], *FORK[1]))
    yield book.change, {}, (("deed", "deed", 0),)
    yield book.takers, {}, (("ware", "ware", 0),)
    yield book.with_deed, {}, (("take", "numbers", WISH), ("give", "numbers", WISH))
    yield Shelf, {}, (("book", "book", FORK), ("fill", "fill", FILL))
    shelf = Shelf(FORK, (TWO, TWO, TWO, TWO))
    yield shelf.can, {}, (("deed", "deed", 0),)
    yield shelf.most, {}, (("deed", "deed", 0),)
    yield shelf.do, {}, (("deed", "deed", 0), ("times", "above", (1, 100)))
    yield shelf.go, {}, (("run", "run", ()),)


class ParametersTest(unittest.TestCase):
    def refused(self, word, call, values):
        with self.assertRaises(NotUsable) as caught:
            call(**values)
        self.assertEqual(fields(caught.exception), (word, -1), (call, values))
        self.assertIsInstance(caught.exception, BookError)

    def test_good(self):
        for call, given, judged in all_cases():
            values = {**given, **{name: good for name, kind, good in judged}}
            try:
                call(**values)
            except NotUsable as error:
                self.fail(f"{call} refuses {fields(error)}")
            except HadError:
                pass

    def test_twice(self):
        for call, given, judged in all_cases():
            if getattr(call, "__name__", "") in ("do", "go"):
                continue
            values = {**given, **{name: good for name, kind, good in judged}}
            before = deepcopy(values)
            told = []
            for _ in range(2):
                try:
                    told.append(call(**values))
                except HadError as error:
                    told.append((error.__class__, fields(error)))
            self.assertEqual(told[0], told[1], call)
            self.assertEqual(values, before)

    def test_each(self):
        for call, given, judged in all_cases():
            good = {**given, **{name: one for name, kind, one in judged}}
            for name, kind, _ in judged:
                for bad in BAD[kind]:
                    self.refused(name, call, {**good, name: bad})

    def test_first_of_two(self):
        for call, given, judged in all_cases():
            good = {**given, **{name: one for name, kind, one in judged}}
            for (name, kind, _), (later, more, _) in combinations(judged, 2):
                self.refused(name, call, {**good, name: BAD[kind][0], later: BAD[more][0]})

    def test_without_deeds(self):
        # Where no deed asks for the fill, it is judged all the same.
        wish, fill = (0, 1), (ONE, ONE)
        for file, name, judged in (
                ("stepping", "fill_by", {"fill": fill, "flux": ()}),
                ("running", "stuck_at", {"fill": fill, "run": ()}),
                ("running", "end_of", {"fill": fill, "run": ()}),
                ("running", "lowest_of", {"fill": fill, "run": ()}),
                ("running", "worths_along", {"wish": wish, "fill": fill, "run": ()}),
                ("rests", "at_rest", {"fill": fill}),
                ("rests", "rest_run", {"fill": fill}),
                ("openings", "opening_run", {"fill": fill, "near": ONE}),
                ("closings", "closing_run", {"fill": fill, "near": ONE}),
                ("openings", "opening_of", {"lot": (0,)}),
                ("closings", "closing_of", {"lot": (0,)}),
                ("lots", "closed_from", {"lot": (0,)}),
                ("lots", "is_closed", {"lot": (0,)}),
                ("traps", "is_trap", {"lot": (0,)}),
                ("traps", "trap_within", {"lot": (0,)}),
                ("straights", "is_straight", {"fill": fill, "flux": ()}),
                ("straights", "straight_run", {"fill": fill, "flux": ()}),
                ("mosts", "most_of", {"wish": wish, "fill": fill}),
                ("pricekinds", "never_rises", {"row": fill}),
                ("pricekinds", "never_falls", {"row": fill}),
                ("runfors", "run_for", {"wish": wish, "fill": fill, "worth": ONE})):
            call = getattr(importlib.import_module("stillhad." + file), name)
            good = {"book": (2, ()), **judged}
            call(**good)
            for word in judged:
                for bad in (None, ((1, 2),), (HALF,), [], 0):
                    self.refused(word, call, {**good, word: bad})

    def test_sum_of_books(self):
        book = Book(*(FORK[0], *FORK[1]))
        for bad in (None, FORK, 3, "", Book(3), [book]):
            with self.assertRaises(NotUsable) as caught:
                book + bad
            self.assertEqual(fields(caught.exception), ("other", -1))

    def test_deeds_of_books(self):
        good = (WISH, WISH)
        for bad in (None, (), (WISH,), [WISH, WISH], (WISH, WISH, WISH), (WISH, WISH[1:]), ((True, 0, 0, 0), WISH)):
            for call in (Book, importlib.import_module("stillhad.books").book_of):
                with self.assertRaises(NotUsable) as caught:
                    call(4, good, bad, None)
                self.assertEqual(fields(caught.exception), ("deeds", 1))
        with self.assertRaises(NotUsable) as caught:
            Book(0, None)
        self.assertEqual(fields(caught.exception), ("size", -1))


if __name__ == "__main__":
    unittest.main()
