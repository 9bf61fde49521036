"""Each judged parameter is refused under its name, the first one first, by position or by name."""

import importlib
import inspect
import unittest
from copy import deepcopy
from itertools import combinations

from stillhad.bookclasses import Book
from stillhad.errors import BookError, HadError, NotUsable
from stillhad.houseclasses import House
from stillhad.live import LiveStore
from stillhad.liveasks import LiveAsks
from stillhad.moduleclasses import Module
from stillhad.mostclasses import Mosts
from stillhad.runclasses import Shelf
from stillhad.shareclasses import Share
from stillhad.tariffclasses import Tariff
from tests.helpers import BOTH, ENDLESS, FILL, FORK, FORKED, GIVES, HALF, LOOP, NOUGHT, ONE, SPLIT, TWO, WISH, fields

RUN = ((2, ((0, HALF), (1, HALF))),)
ROWS = ((NOUGHT, TWO), (TWO, NOUGHT))
# SPLIT, and behind it a seat that takes both its outs.
HOUSE = ((4, (((0,), (1, 2)), ((1, 2), (3,))), (0,), (3,)), (SPLIT, ((3, ()), (0, 1), (2,))))
PAIR = ((2, ((0, HALF),)),)
PLAIN = (4, (((1, 0, 0, 0), (0, 0, 0, 1)),))
NOT_QUOTIENTS = ((2, 4), (0, 2), (1, 0), (0, 0), (-1, 2), (1, -2), (True, 1), (1, True), (1,), (1, 1, 1), [1, 1],
                 ("1", 1), 1, None, "1", ())
NOT_PRICES = ((2, 0), (0, 0), (2, 4), (-1, 0), (True, 0), (1, False), (1,), (1, 0, 0), [1, 0], None, "oo", ())


def bent(good, odd):
    """The tuple good made a list, too short, too long, with odd elements."""
    return [list(good), good[:-1], good + good[:1], None, "", 0] + [good[:-1] + (one,) for one in odd]


BAD = {
    "top": (-1, True, None, "1", (1,), [1]),
    "bottom": (0, -1, True, None, "1"),
    "quotient": NOT_QUOTIENTS,
    "above": NOT_QUOTIENTS + (NOUGHT,),
    "price": NOT_PRICES,
    "deed": (-1, 3, True, False, None, "0", (0,), 10 ** 30),
    "ware": (-1, 4, True, False, None, "0", (0,)),
    "end": (-1, 4, 0, True, None, "3", (3,)),
    "lot": ([0], (1, 0), (0, 0), (4,), (-1,), (True,), ("0",), 0, None, "01", {0}),
    "fill": bent(FILL, NOT_QUOTIENTS),
    "row": bent(FILL, NOT_PRICES),
    "flux": bent(FILL[:3], NOT_QUOTIENTS),
    "wish": ((0, 0, 0, 0), (1, 0, 0, 1), (0, 0, 1), (0, 0, 0, 1, 0), [0, 0, 0, 1], (0, 0, 0, True), (False, 0, 0, 1),
             (0, 0, 0, -1), (0, 0, 0, (1, 1)), None, 1, "0001"),
    "run": (None, [], ((0, ((0, ONE),)),), ((1, ()),), ((1, ((0, NOUGHT),)),), ((1, ((3, ONE),)),), 0, "-",
            ((True, ((0, ONE),)),), ((1, [(0, ONE)]),), (1, ((0, ONE),)), ((1, ((0, (2, 4)),)),), ((1, ((0,),)),),
            ([1, ((0, ONE),)],), ((1, ((True, ONE),)),), ((1, ((0, ONE), None)),), RUN + (None,), ((1, (0, ONE)),)),
    "text": (None, 0, b"1", ("1",), ["1"], True),
    "numbers": bent(WISH, (-1, True, None, "0", (0, 1))),
    "many": (0, -1, True, None, "1", (1,)),
    "order": ((0, 1, 2), (0, 1, 2, 3, 4), (0, 1, 2, 2), (1, 2, 3, 4), [0, 1, 2, 3], (False, True, 2, 3), None,
              (0, 1, 2, None)),
    "places": ((0, 1), (0, 1, 2, 3), (0, 1, 1), (1, 2, 3), [0, 1, 2], (False, 1, 2), None, (0, 1, "2")),
    "book": (None, (), (4,), (4, []), [4, ()], (0, ()), (True, ()), ("4", ()), (4, (((1,), (1,)),)), (4, (), ())),
    "same": (None, (3, ()), [4, ()], (4, []), (4, ((WISH, WISH[1:]),)), (5, ())),
}
BAD["weights"] = bent((ONE, HALF), NOT_QUOTIENTS)
BAD["smaller"] = bent((ONE, NOUGHT), NOT_QUOTIENTS + (ONE,))
BAD["two"] = bent((ONE, NOUGHT), NOT_QUOTIENTS)
BAD["two prices"] = bent((ONE, NOUGHT), NOT_PRICES)
BAD["less"] = NOT_QUOTIENTS + ((3, 1), (3, 2))
BAD["below one"] = NOT_QUOTIENTS + (NOUGHT, ONE, TWO, (10 ** 6 + 1, 10 ** 6))
BAD["closed"] = BAD["lot"] + ((0,), (1, 2), (0, 1, 2))
BAD["hands"] = ([0], (1, 0), (0, 0), (3,), (-1,), (True,), ("0",), 0, None, "01", {0})
BAD["place"] = (2, -1, True, False, None, "0", (0,), 10 ** 30)
BAD["rows"] = (None, ROWS[::-1], list(ROWS), ROWS[:1] * 2, ROWS + (None,), ((ONE,),), ((),), 0, "", ((ONE, ONE), (ONE,)),
               ([ONE, ONE],), ((ONE, (2, 2)),), (ONE, ONE))
BAD["any rows"] = tuple(bad for bad in BAD["rows"] if bad not in (((ONE,),), ((),)))
BAD["things"] = tuple(bad for bad in BAD["lot"] if bad != (4,)) + ((2,), (0, 2))
BAD["take"] = BAD["numbers"] + [(0, 0, 0, 1)]
BAD["in amounts"] = bent((ONE,), NOT_QUOTIENTS)
BAD["out weights"] = bent((0, 1), (-1, True, None, "0", (0, 1))) + [(0, 0)]
BAD["count"] = (-1, True, None, "1", (1,), [0])
BAD["fork place"] = (3, -1, True, False, None, "0", (0,), 10 ** 30)
BAD["tariffs"] = (None, [ROWS, ()], (ROWS,), (ROWS, ROWS, ROWS), (ROWS, None), (ROWS, ((ONE,),)), (ROWS, ROWS[::-1]), (),
                  0)
BAD["any fill"] = (None, 5, "", [ONE], {}) + tuple((ONE, one) for one in NOT_QUOTIENTS)
BAD["any row"] = (None, 5, "", [ONE], {}) + tuple((ENDLESS, one) for one in NOT_PRICES)
BAD["any lot"] = ([0], (1, 0), (0, 0), (-1,), (True,), ("0",), 0, None, "01")
BAD["two places"] = ((0, 2), (0,), (0, 0), (0, 1, 2), [0, 1], (True, 0), (1, -1), None, 1, (0, None))
BAD["one place"] = ((1,), (), (0, 0), [0], (False,), None, 0)
BAD["module"] = (None, (), FORKED, SPLIT[0], [*SPLIT], (SPLIT[0], (), (1, 2)), (SPLIT[0], (0,), (1, 1)), 0,
                 (SPLIT[0], (0,), (2,)), (FORK, (0,), (3, 1)))
BAD["door tariffs"] = (None, (), [((ONE,),)], ((ONE,),), (((ONE,), (ONE,)),), (((TWO,), (ONE,)),), (((ONE, ONE),),), ((ONE,), None),
                       (None,), 0)
BAD["some weights"] = ((), (0,), (0, 0, 0), [1], (1, True), (1, -1), (1, None), None, 1, "1", (ONE,))
BAD["out weight"] = bent((1,), (-1, True, None, "0", (0, 1))) + [(0,), (0, 1)]
BAD["wires"] = bent(FILL[:3], NOT_QUOTIENTS)
BAD["four wires"] = BAD["fill"]
BAD["wire lot"] = ([0], (1, 0), (0, 0), (3,), (-1,), (True,), ("0",), 0, None, "01")
BAD["seat"] = (2, -1, True, False, None, "0", (0,), 10 ** 30)
BAD["one seat"] = (1,) + BAD["seat"]
BAD["links"] = (None, (), [*GIVES], GIVES * 2, (GIVES[0][:1],), ([*GIVES[0]],), (GIVES[0] + ((),),), (((), ((ONE,),)),),
                (((), None),), (((), ((TWO, ONE), (ONE, ONE))),), 0)
BAD["log"] = (None, [], ("day",), (("day",), None), (("bring", 4, ONE),), (("do", -1, ONE),), 0, "")
BAD["any tuple"] = (None, [], "", 0, {})
BAD["many of one"] = (2, -1, True, None, "1", (1,))
BAD["event"] = (None, (), ("day", 0), ("bring", -1, ONE), ["day"], "day", ("learn", (), ()), ("learn", WISH, (0,)), 0)
BAD["any log"] = BAD["any tuple"] + tuple((("day",), one) for one in BAD["event"])
BAD["events"] = BAD["any tuple"]
BAD["steps"] = (-1, True, False, None, "1", (1,))

# File, function, what is passed in as stated, and then parameter, kind and a good value of each judged one.
CASES = (
    ("quotients", "quotient_of", {}, (("top", "top", 0), ("bottom", "bottom", 5))),
    ("quotients", "plus", {"one": ONE}, (("other", "price", ENDLESS),)),
    ("quotients", "product", {"one": ONE}, (("other", "price", ENDLESS),)),
    ("quotients", "less", {"one": ONE}, (("other", "price", ENDLESS),)),
    ("quotients", "minus", {"one": ONE}, (("other", "less", ONE),)),
    ("quotients", "over", {"one": ONE}, (("other", "above", TWO),)),
    ("rowsums", "priced", {"row": (ENDLESS, ONE)}, (("fill", "two", (ONE, ONE)),)),
    ("rowsums", "row_plus", {"row": (ENDLESS, ONE)}, (("other", "two prices", (ONE, ENDLESS)),)),
    ("rowsums", "row_times", {"row": (ENDLESS, ONE)}, (("factor", "quotient", NOUGHT),)),
    ("rowsums", "row_below", {"row": (ENDLESS, ONE)}, (("other", "two prices", (ONE, ENDLESS)),)),
    ("rowsums", "row_mixed", {"rows": ((ONE,), (ONE,))}, (("weights", "weights", (ONE, NOUGHT)),)),
    ("rowsums", "fill_plus", {"fill": (ONE, HALF)}, (("other", "two", (ONE, HALF)),)),
    ("rowsums", "fill_minus", {"fill": (ONE, HALF)}, (("other", "smaller", (ONE, HALF)),)),
    ("rowsums", "fill_times", {"fill": (ONE, HALF)}, (("factor", "quotient", NOUGHT),)),
    ("rowsums", "fill_below", {"fill": (ONE, HALF)}, (("other", "two", (ONE, HALF)),)),
    ("books", "change_of", {"book": FORK}, (("deed", "deed", 2),)),
    ("books", "takers_of", {"book": FORK}, (("ware", "ware", 3),)),
    ("books", "givers_of", {"book": FORK}, (("ware", "ware", 3),)),
    ("books", "tools_of", {"book": FORK}, (("deed", "deed", 2),)),
    ("books", "within_of", {"book": FORK}, (("lot", "lot", ()),)),
    ("bookchanges", "with_deed", {"book": FORK}, (("take", "numbers", WISH), ("give", "numbers", WISH))),
    ("bookchanges", "without_deed", {"book": FORK}, (("deed", "deed", 0),)),
    ("bookchanges", "with_all", {"book": FORK}, (("other", "same", FORK),)),
    ("bookchanges", "kept_to", {"book": FORK}, (("lot", "lot", (0, 3)),)),
    ("bookchanges", "scaled", {"book": FORK}, (("deed", "deed", 0), ("many", "many", 1))),
    ("bookchanges", "renamed", {"book": FORK}, (("order", "order", (3, 1, 2, 0)),)),
    ("bookchanges", "shuffled", {"book": FORK}, (("places", "places", (2, 1, 0)),)),
    ("bookchanges", "beside", {"book": FORK}, (("other", "book", (1, ())),)),
    ("wishes", "unit_wish", {"book": FORK}, (("ware", "end", 3),)),
    ("wishes", "wished_wares", {"book": FORK}, (("wish", "wish", WISH),)),
    ("wishes", "worth_of", {"book": FORK}, (("wish", "wish", WISH), ("fill", "fill", FILL))),
    ("textreadings", "read_price", {}, (("text", "text", "1"),)),
    ("textreadings", "read_row", {}, (("text", "text", "1 oo"),)),
    ("textreadings", "read_fill", {}, (("text", "text", "1"),)),
    ("textreadings", "read_book", {}, (("text", "text", "1"),)),
    ("stepping", "can_do", {"book": FORK}, (("fill", "fill", FILL), ("deed", "deed", 0))),
    ("stepping", "most_times", {"book": FORK}, (("fill", "fill", FILL), ("deed", "deed", 0))),
    ("stepping", "after_step", {"book": FORK},
     (("fill", "fill", FILL), ("deed", "deed", 0), ("times", "above", HALF))),
    ("stepping", "fill_by", {"book": FORK}, (("fill", "fill", FILL), ("flux", "flux", (ONE, NOUGHT, NOUGHT)))),
    ("runkinds", "flux_of", {"book": FORK}, (("run", "run", RUN),)),
    ("runkinds", "run_times", {"book": FORK}, (("run", "run", RUN), ("times", "above", HALF))),
    ("runkinds", "steps_in", {"book": FORK}, (("run", "run", RUN),)),
    ("runkinds", "run_line", {"book": FORK}, (("run", "run", RUN),)),
    ("runkinds", "read_run", {"book": FORK}, (("text", "text", "-"),)),
    ("running", "stuck_at", {"book": FORK}, (("fill", "fill", FILL), ("run", "run", RUN))),
    ("running", "end_of", {"book": FORK}, (("fill", "fill", FILL), ("run", "run", RUN))),
    ("running", "lowest_of", {"book": FORK}, (("fill", "fill", FILL), ("run", "run", RUN))),
    ("running", "worths_along", {"book": FORK},
     (("wish", "wish", WISH), ("fill", "fill", FILL), ("run", "run", RUN))),
    ("lots", "closed_from", {"book": FORK}, (("lot", "lot", (0, 3)),)),
    ("lots", "is_closed", {"book": FORK}, (("lot", "lot", (0, 3)),)),
    ("openings", "opening_of", {"book": FORK}, (("lot", "lot", (0, 3)),)),
    ("openings", "lets_opening", {"book": FORK, "thing": (0, 1)}, (("lot", "lot", (0, 3)),)),
    ("openings", "opening_run", {"book": FORK}, (("fill", "fill", FILL), ("near", "above", HALF))),
    ("traps", "is_trap", {"book": FORK}, (("lot", "lot", (0, 3)),)),
    ("traps", "trap_within", {"book": FORK}, (("lot", "lot", (0, 3)),)),
    ("closings", "closing_of", {"book": FORK}, (("lot", "lot", (0, 3)),)),
    ("closings", "lets_closing", {"book": FORK, "thing": (2,)}, (("lot", "lot", (0, 3)),)),
    ("closings", "closing_run", {"book": FORK}, (("fill", "fill", FILL), ("near", "above", HALF))),
    ("straights", "is_straight", {"book": FORK}, (("fill", "fill", FILL), ("flux", "flux", (ONE, ONE, NOUGHT)))),
    ("straights", "straight_run", {"book": FORK}, (("fill", "fill", FILL), ("flux", "flux", (ONE, HALF, NOUGHT)))),
    ("rests", "at_rest", {"book": FORK}, (("fill", "fill", FILL),)),
    ("rests", "rest_run", {"book": FORK}, (("fill", "fill", FILL),)),
    ("pricekinds", "never_rises", {"book": FORK}, (("row", "row", FILL),)),
    ("pricekinds", "never_falls", {"book": FORK}, (("row", "row", FILL),)),
    ("pricekinds", "keeps", {"book": FORK}, (("deed", "deed", 0), ("row", "row", FILL))),
    ("pricekinds", "is_price_row", {"book": FORK, "thing": None}, (("wish", "wish", WISH),)),
    ("mosts", "most_of", {"book": FORK}, (("wish", "wish", WISH), ("fill", "fill", FILL))),
    ("pricepapers", "price_paper", {"book": FORK}, (("wish", "wish", WISH), ("fill", "fill", FILL))),
    ("pricepapers", "lets_price", {"book": FORK, "thing": (ONE,) * 4},
     (("wish", "wish", WISH), ("fill", "fill", FILL))),
    ("fluxpapers", "flux_paper", {"book": FORK}, (("wish", "wish", WISH), ("fill", "fill", FILL))),
    ("fluxpapers", "lets_flux", {"book": FORK, "thing": ((1, 0, 2), (NOUGHT,) * 3)},
     (("wish", "wish", WISH), ("fill", "fill", FILL))),
    ("endlesspapers", "endless_paper", {"book": FORK}, (("wish", "wish", WISH), ("fill", "fill", FILL))),
    ("endlesspapers", "lets_endless", {"book": FORK, "thing": ((1, 0, 2), (NOUGHT,) * 3)},
     (("wish", "wish", WISH), ("fill", "fill", FILL))),
    ("runfors", "run_for", {"book": FORK},
     (("wish", "wish", WISH), ("fill", "fill", FILL), ("worth", "quotient", HALF))),
    ("following", "follows", {"book": FORK}, (("fill", "fill", FILL), ("goal", "fill", FILL))),
    ("following", "stretch_of", {"book": FORK}, (("fill", "fill", FILL), ("goal", "fill", FILL))),
    ("following", "goal_run", {"book": FORK},
     (("fill", "fill", FILL), ("goal", "fill", FILL), ("near", "below one", HALF))),
    ("followpapers", "follow_paper", {"book": FORK}, (("fill", "fill", FILL), ("goal", "fill", FILL))),
    ("followpapers", "lets_follow", {"book": FORK, "thing": None}, (("fill", "fill", FILL), ("goal", "fill", FILL))),
    ("samebooks", "deed_follows", {"book": FORK}, (("take", "numbers", WISH), ("give", "numbers", WISH))),
    ("samebooks", "says_same", {"book": FORK}, (("other", "same", FORK),)),
    ("samebooks", "said_apart", {"book": FORK}, (("other", "same", FORK),)),
    ("tariffkinds", "is_tariff", {"thing": ()}, (("many", "count", 0),)),
    ("tariffkinds", "least_of", {"rows": ROWS}, (("fill", "two", (ONE, HALF)),)),
    ("tariffkinds", "told_by", {"rows": ROWS}, (("fill", "two", (ONE, HALF)),)),
    ("tariffkinds", "least_at", {"rows": ROWS}, (("row", "two prices", (ONE, ENDLESS)),)),
    ("tariffkinds", "least_of", {"rows": ()}, (("fill", "any fill", (ONE, HALF)),)),
    ("tariffkinds", "told_by", {"rows": ()}, (("fill", "any fill", ()),)),
    ("tariffkinds", "least_at", {"rows": ()}, (("row", "any row", (ENDLESS,)),)),
    ("tariffsums", "cut_to", {"rows": ()}, (("lot", "any lot", (3, 10 ** 30)),)),
    ("corners", "corners_of", {"book": FORK}, (("wish", "wish", WISH), ("lot", "closed", (1, 3)))),
    ("corners", "corner_rows", {"book": FORK}, (("wish", "wish", WISH),)),
    ("trimming", "is_needless", {"rows": ROWS}, (("place", "place", 1),)),
    ("trimming", "mixture_of", {"rows": ROWS}, (("place", "place", 1),)),
    ("trimming", "lets_mixture", {"rows": ROWS, "thing": None}, (("place", "place", 1),)),
    ("spots", "spot_of", {"rows": ROWS}, (("place", "place", 1),)),
    ("spots", "lets_spot", {"rows": ROWS, "thing": None}, (("place", "place", 1),)),
    ("tariffs", "tariff_of", {"book": FORK}, (("wish", "wish", WISH),)),
    ("tariffchecks", "lets_tariff", {"book": FORK, "thing": None}, (("wish", "wish", WISH),)),
    ("partings", "tariffs_apart", {"rows": ROWS}, (("other", "rows", ROWS),)),
    ("partings", "tariffs_apart", {"rows": ()}, (("other", "any rows", ((ONE,),)),)),
    ("partings", "books_apart", {"book": FORK}, (("other", "same", FORK), ("wish", "wish", WISH))),
    ("tariffsums", "tariff_plus", {"rows": ROWS}, (("other", "rows", ROWS),)),
    ("tariffsums", "tariff_plus", {"rows": ()}, (("other", "any rows", ((ONE,),)),)),
    ("tariffsums", "tariff_less", {"rows": ROWS}, (("other", "rows", ()),)),
    ("tariffsums", "tariff_less", {"rows": ()}, (("other", "any rows", ((),)),)),
    ("tariffsums", "tariff_times", {"rows": ROWS}, (("factor", "above", HALF),)),
    ("tariffsums", "tariff_times", {"rows": ()}, (("factor", "above", HALF),)),
    ("tariffsums", "tariff_beside", {"rows": ROWS}, (("other", "any rows", ((ONE,),)),)),
    ("tariffsums", "tariff_beside", {"rows": ()}, (("other", "any rows", ((),)),)),
    ("tariffsums", "cut_to", {"rows": ROWS}, (("lot", "things", (1,)),)),
    ("putting", "put_in", {},
     (("many", "count", 2), ("rows", "any rows", ROWS), ("tariffs", "tariffs", (ROWS, ())))),
    ("tarifftexts", "read_tariff", {}, (("many", "count", 2), ("text", "text", "0 2"))),
    ("sandwiches", "sandwich_of", {"book": FORK},
     (("wish", "wish", WISH), ("hands", "hands", (0, 2)), ("place", "fork place", 2))),
    ("sandwiches", "lets_sandwich", {"book": FORK, "thing": None},
     (("wish", "wish", WISH), ("hands", "hands", ()), ("place", "fork place", 0))),
    ("shares", "row_share", {"book": FORK},
     (("wish", "wish", WISH), ("hands", "hands", (0, 1, 2)), ("place", "fork place", 1))),
    ("shares", "share_table", {"book": FORK}, (("wish", "wish", WISH), ("hands", "hands", (0, 1)))),
    ("shares", "sure_share", {"book": FORK}, (("wish", "wish", WISH), ("hands", "hands", ()))),
    ("sharepapers", "share_paper", {"book": FORK}, (("wish", "wish", WISH), ("hands", "hands", (1,)))),
    ("sharepapers", "lets_share", {"book": FORK, "thing": None}, (("wish", "wish", WISH), ("hands", "hands", (1,)))),
    ("rights", "harmless_deeds", {"book": FORK}, (("wish", "wish", WISH),)),
    ("rights", "is_right", {"book": FORK}, (("wish", "wish", WISH),)),
    ("rights", "unkept", {"book": FORK}, (("wish", "wish", WISH),)),
    ("losings", "losing_deed", {"book": FORK}, (("wish", "wish", WISH), ("hands", "hands", (0,)))),
    ("losings", "mosts_by", {"book": FORK}, (("wish", "wish", WISH), ("fill", "fill", FILL), ("run", "run", PAIR))),
    ("losingruns", "losing_run", {"book": FORK},
     (("wish", "wish", WISH), ("hands", "hands", (0,)), ("near", "above", TWO))),
    ("losingruns", "lets_losing", {"book": FORK, "thing": None},
     (("wish", "wish", WISH), ("hands", "hands", (0,)), ("near", "above", HALF))),
    ("restshares", "losing_rest", {"book": FORK}, (("wish", "wish", WISH), ("near", "above", HALF))),
    ("restshares", "rests_alike", {"book": FORK}, (("wish", "wish", WISH),)),
    ("additions", "lifts", {"book": FORK},
     (("wish", "wish", WISH), ("take", "take", (0, 1, 0, 0)), ("give", "numbers", WISH))),
    ("additions", "keeps_tariff", {"book": FORK},
     (("wish", "wish", WISH), ("take", "take", (0, 1, 0, 0)), ("give", "numbers", WISH))),
    ("additions", "added", {"book": FORK},
     (("wish", "wish", WISH), ("take", "take", (0, 1, 0, 0)), ("give", "numbers", (0, 1, 0, 0)))),
    ("additions", "put_together", {"book": PLAIN}, (("wish", "wish", WISH), ("other", "same", PLAIN))),
    ("takers", "heard_deeds", {"book": FORK}, (("wish", "wish", WISH),)),
    ("takers", "one_taker", {"book": FORK}, (("wish", "wish", WISH),)),
    ("takers", "end_mosts", {"book": FORK}, (("fill", "fill", FILL),)),
    ("takers", "had_together", {"book": FORK}, (("fill", "fill", FILL),)),
    ("modules", "module_fill", {"module": SPLIT}, (("amounts", "in amounts", (HALF,)),)),
    ("modules", "module_wish", {"module": SPLIT}, (("weights", "out weights", (0, 1)),)),
    ("modules", "goal_fill", {"module": SPLIT}, (("goal", "weights", (HALF, NOUGHT)),)),
    ("modules", "doors_turned", {"module": SPLIT},
     (("in_order", "one place", (0,)), ("out_order", "two places", (1, 0)))),
    ("doormosts", "door_most", {"module": SPLIT},
     (("weights", "out weights", (2, 0)), ("amounts", "in amounts", (HALF,)))),
    ("doormosts", "door_each", {"module": SPLIT}, (("amounts", "in amounts", (HALF,)),)),
    ("doortariffs", "door_tariff", {"module": SPLIT}, (("door", "place", 1),)),
    ("layers", "layers_of", {}, (("many", "count", 1), ("tariffs", "door tariffs", (((ONE,),), ())))),
    ("layers", "joiner_of", {}, (("weights", "some weights", (0, 2, 0)),)),
    ("makings", "makes", {"module": SPLIT}, (("amounts", "in amounts", (HALF,)), ("goal", "weights", (ONE, NOUGHT)))),
    ("makings", "making_paper", {"module": SPLIT},
     (("amounts", "in amounts", (HALF,)), ("goal", "weights", (ONE, NOUGHT)))),
    ("makings", "lets_making", {"module": SPLIT, "thing": None},
     (("amounts", "in amounts", (HALF,)), ("goal", "weights", (ONE, NOUGHT)))),
    ("makings", "making_stretch", {"module": SPLIT},
     (("amounts", "in amounts", (HALF,)), ("goal", "weights", (ONE, NOUGHT)))),
    ("alikes", "alike_modules", {"module": SPLIT}, (("other", "module", BOTH),)),
    ("alikes", "modules_apart", {"module": SPLIT}, (("other", "module", BOTH),)),
    ("alikes", "lets_apart", {"module": SPLIT, "thing": None}, (("other", "module", BOTH),)),
    ("moduleclasses", "read_module", {}, (("text", "text", "- > 0 | 1"),)),
    ("houses", "house_fill", {"house": HOUSE}, (("fill", "four wires", FILL),)),
    ("houses", "house_wish", {"house": HOUSE}, (("weights", "out weight", (2,)),)),
    ("houses", "with_module", {"house": HOUSE}, (("seat", "seat", 0), ("module", "module", BOTH))),
    ("houses", "joined_house", {"module": SPLIT}, (("weights", "out weights", (2, 0)),)),
    ("ways", "way_out", {"wiring": HOUSE[0]}, (("seat", "seat", 0),)),
    ("ways", "way_out", {"wiring": LOOP}, (("seat", "one seat", 0),)),
    ("breakings", "lets_breaking", {"wiring": LOOP, "thing": None}, ()),
    ("reachedwires", "reached_wires", {"wiring": LOOP}, (("tariffs", "links", GIVES), ("lot", "wire lot", (0, 2)))),
    ("linking", "linked_most", {"wiring": LOOP},
     (("tariffs", "links", GIVES), ("weights", "out weight", (2,)), ("fill", "wires", FILL[:3]))),
    ("linkpapers", "link_paper", {"wiring": LOOP},
     (("tariffs", "links", GIVES), ("weights", "out weight", (2,)), ("fill", "wires", FILL[:3]))),
    ("linkpapers", "lets_link", {"wiring": LOOP, "thing": None},
     (("tariffs", "links", GIVES), ("weights", "out weight", (2,)), ("fill", "wires", FILL[:3]))),
    ("linkflows", "flow_paper", {"wiring": LOOP},
     (("tariffs", "links", GIVES), ("weights", "out weight", (2,)), ("fill", "wires", FILL[:3]))),
    ("linkflows", "lets_flow", {"wiring": LOOP, "thing": None},
     (("tariffs", "links", GIVES), ("weights", "out weight", (2,)), ("fill", "wires", FILL[:3]))),
    ("linkflows", "endless_flow", {"wiring": LOOP},
     (("tariffs", "links", GIVES), ("weights", "out weight", (2,)), ("fill", "wires", FILL[:3]))),
    ("linkflows", "lets_endless_flow", {"wiring": LOOP, "thing": None},
     (("tariffs", "links", GIVES), ("weights", "out weight", (2,)), ("fill", "wires", FILL[:3]))),
    ("chaining", "chained_tariffs", {"wiring": LOOP}, (("tariffs", "links", GIVES),)),
    ("swaps", "can_swap", {"house": HOUSE}, (("seat", "seat", 0), ("module", "module", BOTH))),
    ("swaps", "parting_houses", {"module": SPLIT}, (("other", "module", BOTH),)),
    ("housetexts", "read_wiring", {}, (("text", "text", "1; - > 0"),)),
    ("grains", "grain_of", {"book": FORK}, (("wish", "wish", WISH), ("fill", "fill", FILL), ("ware", "ware", 1))),
    ("grains", "grained_most", {"book": FORK}, (("wish", "wish", WISH), ("fill", "fill", FILL), ("lot", "lot", (0, 1)))),
    ("courses", "course_of", {"book": FORK}, (("wish", "wish", WISH), ("fill", "fill", FILL), ("ware", "ware", 1))),
    ("buying", "least_cost", {"book": FORK},
     (("wish", "wish", WISH), ("fill", "fill", FILL), ("worth", "quotient", TWO), ("costs", "row", (ONE,) * 4))),
    ("buying", "bought_for", {"book": FORK},
     (("wish", "wish", WISH), ("fill", "fill", FILL), ("worth", "quotient", TWO), ("costs", "row", (ENDLESS,) * 4))),
    ("buypapers", "cost_paper", {"book": FORK},
     (("wish", "wish", WISH), ("fill", "fill", FILL), ("worth", "quotient", TWO), ("costs", "row", (ONE,) * 4))),
    ("buypapers", "lets_cost", {"book": FORK, "thing": None},
     (("wish", "wish", WISH), ("fill", "fill", FILL), ("worth", "quotient", TWO), ("costs", "row", (ONE,) * 4))),
    ("reasons", "reason_of", {"book": FORK, "event": None}, (("wish", "wish", WISH), ("fill", "fill", FILL))),
    ("journals", "replayed", {"book": FORK},
     (("wish", "wish", WISH), ("fill", "fill", FILL), ("log", "log", (("do", 0, ONE),)))),
    ("journals", "days_of", {"book": FORK}, (("wish", "wish", WISH), ("fill", "fill", FILL), ("log", "log", (("day",),)))),
    ("journals", "cut_log", {}, (("log", "any tuple", (None,)), ("many", "many of one", 1))),
    ("eventtexts", "event_line", {}, (("event", "event", ("bring", 9, ONE)),)),
    ("eventtexts", "read_event", {}, (("text", "text", "day"),)),
    ("eventtexts", "log_text", {}, (("log", "any log", (("day",),)),)),
    ("eventtexts", "read_log", {}, (("text", "text", ""),)),
    ("desk", "desk_line", {},
     (("live", "book", LiveStore(FORK, WISH, FILL)), ("text", "text", "fill"))),
)

# The functions of which no parameter is judged, with what may be passed in.
UNJUDGED = (
    ("rightmodules", "is_right_module", (SPLIT,)), ("rightmodules", "unkept_door", (FORKED,)),
    ("twins", "has_twin", (SPLIT,)), ("twins", "twin_of", (FORKED,)), ("wiringchecker", "lets_wiring", (LOOP,)),
    ("wiringchecker", "is_wiring", ([LOOP],)), ("wiringchecker", "is_house", (HOUSE,)), ("houses", "flat_of", (HOUSE,)),
    ("houses", "house_of", (HOUSE[0], *HOUSE[1])), ("ways", "shared_wires", (LOOP,)), ("ways", "heard_seats", (HOUSE[0],)),
    ("ways", "is_safe", (LOOP,)), ("ways", "ring_seats", (LOOP,)), ("ways", "seat_order", (HOUSE[0],)),
    ("breakings", "breaking_of", ((2, (((0, 0), (1,)),), (0,), (1,)),)), ("reachedwires", "is_tariffs", (LOOP, [GIVES])),
    ("housetexts", "wiring_line", (LOOP,)), ("liveevents", "is_event", (4, ["day"])), ("liveevents", "is_log", (4, [("day",)])),
)


def all_cases():
    for file, name, given, judged in CASES:
        yield getattr(importlib.import_module("stillhad." + file), name), given, judged
    yield Book, {}, (("size", "many", 4),)
    book = Book(*(FORK[0], *FORK[1]))
    yield book.change, {}, (("deed", "deed", 0),)
    yield book.takers, {}, (("ware", "ware", 0),)
    yield book.with_deed, {}, (("take", "numbers", WISH), ("give", "numbers", WISH))
    yield Shelf, {}, (("book", "book", FORK), ("fill", "fill", FILL))
    shelf = Shelf(FORK, (TWO, TWO, TWO, TWO))
    yield shelf.can, {}, (("deed", "deed", 0),)
    yield shelf.most, {}, (("deed", "deed", 0),)
    yield shelf.do, {}, (("deed", "deed", 0), ("times", "above", (1, 100)))
    yield shelf.go, {}, (("run", "run", ()),)
    yield Mosts, {}, (("book", "book", FORK), ("wish", "wish", WISH))
    mosts = Mosts(FORK, WISH)
    for call in (mosts.most, mosts.price, mosts.flux, mosts.endless):
        yield call, {}, (("fill", "fill", FILL),)
    yield mosts.run, {}, (("fill", "fill", FILL), ("worth", "quotient", HALF))
    yield Share, {}, (("book", "book", FORK), ("wish", "wish", WISH), ("hands", "hands", (0,)))
    share = Share(FORK, WISH, (0,))
    yield share.sandwich, {}, (("place", "fork place", 2),)
    yield share.lose, {}, (("near", "above", HALF),)
    yield share.keeps, {}, (("take", "take", (0, 1, 0, 0)), ("give", "numbers", WISH))
    yield Tariff(2, *ROWS).least, {}, (("fill", "two", (ONE, HALF)),)
    yield Tariff(2, *ROWS).spot, {}, (("place", "place", 1),)
    yield Tariff(2, *ROWS).cut, {}, (("lot", "things", (1,)),)
    module = Module(*SPLIT)
    yield module.most, {}, (("weights", "out weights", (0, 3)), ("amounts", "in amounts", (HALF,)))
    yield module.each, {}, (("amounts", "in amounts", (HALF,)),)
    yield module.tariff, {}, (("door", "place", 1),)
    yield module.makes, {}, (("amounts", "in amounts", (HALF,)), ("goal", "weights", (ONE, NOUGHT)))
    house = House(HOUSE[0], *HOUSE[1])
    yield house.most, {}, (("weights", "out weight", (2,)), ("fill", "four wires", FILL))
    yield house.linked, {}, (("weights", "out weight", (2,)), ("fill", "four wires", FILL))
    yield house.swap, {}, (("seat", "seat", 0), ("module", "module", BOTH))
    yield LiveStore, {}, (("book", "book", FORK), ("wish", "wish", WISH), ("fill", "fill", FILL))
    for kind in (LiveAsks, LiveStore):
        asks = kind(FORK, WISH, FILL)
        yield asks.grain, {}, (("ware", "ware", 2),)
        yield asks.cost, {}, (("worth", "quotient", TWO), ("costs", "row", (ENDLESS,) * 4))
    store = LiveStore(FORK, WISH, FILL)
    yield store.do_all, {"keep": None}, (("events", "events", (None,)),)
    yield store.tried, {}, (("events", "events", (("do", 0, ONE),)),)
    yield store.undo, {}, (("steps", "steps", 0),)


class ParametersTest(unittest.TestCase):
    def refused(self, word, call, values):
        with self.assertRaises(NotUsable) as caught:
            call(**values)
        self.assertEqual(fields(caught.exception), (word, -1), (call, values))
        self.assertIsInstance(caught.exception, BookError)

    def test_good(self):
        for call, given, judged in all_cases():
            values = {**given, **{name: good for name, kind, good in judged}}
            try:
                call(**values)
            except NotUsable as error:
                self.fail(f"{call} refuses {fields(error)}")
            except HadError:
                pass

    def told(self, call, *given, **named):
        """What the call returns, or the error that it raises."""
        try:
            return call(*given, **named)
        except HadError as error:
            return (error.__class__, fields(error))

    def test_positions_and_names(self):
        for call, given, judged in all_cases():
            if getattr(call, "__name__", "") in ("do", "go"):
                continue
            values = {**given, **{name: good for name, kind, good in judged}}
            names = [name for name in inspect.signature(call).parameters if name in values]
            self.assertEqual(len(names), len(values))
            by_name = self.told(call, **{name: values[name] for name in names})
            self.assertEqual(by_name, self.told(call, **{name: values[name] for name in reversed(names)}), call)
            self.assertEqual(by_name, self.told(call, *[values[name] for name in names]), call)

    def test_twice(self):
        for call, given, judged in all_cases():
            if getattr(call, "__name__", "") in ("do", "go"):
                continue
            values = {**given, **{name: good for name, kind, good in judged}}
            before = deepcopy(values)
            told = []
            for _ in range(2):
                try:
                    told.append(call(**values))
                except HadError as error:
                    told.append((error.__class__, fields(error)))
            self.assertEqual(told[0], told[1], call)
            self.assertEqual(values, before)

    def test_twice_where_nothing_is_judged(self):
        for file, name, values in UNJUDGED:
            call = getattr(importlib.import_module("stillhad." + file), name)
            before = deepcopy(values)
            self.assertEqual(call(*values), call(*values), name)
            self.assertEqual(values, before)

    def test_each(self):
        for call, given, judged in all_cases():
            good = {**given, **{name: one for name, kind, one in judged}}
            for name, kind, _ in judged:
                for bad in BAD[kind]:
                    self.refused(name, call, {**good, name: bad})

    def test_first_of_two(self):
        for call, given, judged in all_cases():
            good = {**given, **{name: one for name, kind, one in judged}}
            for (name, kind, _), (later, more, _) in combinations(judged, 2):
                self.refused(name, call, {**good, name: BAD[kind][0], later: BAD[more][0]})

    def test_without_deeds(self):
        # Where no deed asks for the fill, it is judged all the same.
        wish, fill = (0, 1), (ONE, ONE)
        for file, name, judged in (
                ("stepping", "fill_by", {"fill": fill, "flux": ()}),
                ("running", "stuck_at", {"fill": fill, "run": ()}),
                ("running", "end_of", {"fill": fill, "run": ()}),
                ("running", "lowest_of", {"fill": fill, "run": ()}),
                ("running", "worths_along", {"wish": wish, "fill": fill, "run": ()}),
                ("rests", "at_rest", {"fill": fill}),
                ("rests", "rest_run", {"fill": fill}),
                ("openings", "opening_run", {"fill": fill, "near": ONE}),
                ("closings", "closing_run", {"fill": fill, "near": ONE}),
                ("openings", "opening_of", {"lot": (0,)}),
                ("closings", "closing_of", {"lot": (0,)}),
                ("lots", "closed_from", {"lot": (0,)}),
                ("lots", "is_closed", {"lot": (0,)}),
                ("traps", "is_trap", {"lot": (0,)}),
                ("traps", "trap_within", {"lot": (0,)}),
                ("straights", "is_straight", {"fill": fill, "flux": ()}),
                ("straights", "straight_run", {"fill": fill, "flux": ()}),
                ("mosts", "most_of", {"wish": wish, "fill": fill}),
                ("pricekinds", "never_rises", {"row": fill}),
                ("pricekinds", "never_falls", {"row": fill}),
                ("runfors", "run_for", {"wish": wish, "fill": fill, "worth": ONE}),
                ("following", "follows", {"fill": fill, "goal": fill}),
                ("following", "stretch_of", {"fill": fill, "goal": fill}),
                ("following", "goal_run", {"fill": fill, "goal": fill, "near": HALF}),
                ("followpapers", "follow_paper", {"fill": fill, "goal": fill}),
                ("samebooks", "deed_follows", {"take": wish, "give": wish}),
                ("corners", "corners_of", {"wish": wish, "lot": (0,)}),
                ("corners", "corner_rows", {"wish": wish}),
                ("tariffs", "tariff_of", {"wish": wish}),
                ("shares", "share_table", {"wish": wish, "hands": ()}),
                ("sharepapers", "share_paper", {"wish": wish, "hands": ()}),
                ("losings", "losing_deed", {"wish": wish, "hands": ()}),
                ("losingruns", "losing_run", {"wish": wish, "hands": (), "near": ONE}),
                ("restshares", "losing_rest", {"wish": wish, "near": ONE}),
                ("restshares", "rests_alike", {"wish": wish}),
                ("additions", "lifts", {"wish": wish, "take": (1, 0), "give": wish}),
                ("additions", "added", {"wish": wish, "take": (0, 0), "give": (1, 0)}),
                ("takers", "end_mosts", {"fill": fill}),
                ("takers", "had_together", {"fill": fill})):
            call = getattr(importlib.import_module("stillhad." + file), name)
            good = {"book": (2, ()), **judged}
            call(**good)
            for word in judged:
                for bad in (None, ((1, 2),), (HALF,), [], 0):
                    self.refused(word, call, {**good, word: bad})

    def test_sum_of_books(self):
        book = Book(*(FORK[0], *FORK[1]))
        for bad in (None, FORK, 3, "", Book(3), [book]):
            with self.assertRaises(NotUsable) as caught:
                book + bad
            self.assertEqual(fields(caught.exception), ("other", -1))

    def test_deeds_of_books(self):
        good = (WISH, WISH)
        for bad in (None, (), (WISH,), [WISH, WISH], (WISH, WISH, WISH), (WISH, WISH[1:]), ((True, 0, 0, 0), WISH)):
            for call in (Book, importlib.import_module("stillhad.books").book_of):
                with self.assertRaises(NotUsable) as caught:
                    call(4, good, bad, None)
                self.assertEqual(fields(caught.exception), ("deeds", 1))
        with self.assertRaises(NotUsable) as caught:
            Book(0, None)
        self.assertEqual(fields(caught.exception), ("size", -1))


if __name__ == "__main__":
    unittest.main()
