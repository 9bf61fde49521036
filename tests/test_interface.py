"""Every name of the interface stands in its file, with its parameters under their names."""

import importlib
import inspect
import unittest

FUNCTIONS = {
    "kinds": ("is_integer(thing)", "is_number(thing)", "is_quotient(thing)", "is_price(thing)", "is_fill(size, thing)",
              "is_row(size, thing)", "is_lot(size, thing)"),
    "quotients": ("quotient_of(top, bottom)", "plus(one, other)", "product(one, other)", "minus(one, other)",
                  "over(one, other)", "less(one, other)"),
    "rowsums": ("priced(row, fill)", "row_plus(row, other)", "row_times(row, factor)", "row_below(row, other)",
                "row_mixed(rows, weights)", "open_of(row)", "support_of(fill)", "fill_plus(fill, other)",
                "fill_minus(fill, other)", "fill_times(fill, factor)", "fill_below(fill, other)"),
    "bookchecker": ("is_deed(size, thing)", "lets_book(thing)", "is_book(thing)"),
    "books": ("book_of(size, *deeds)", "change_of(book, deed)", "takers_of(book, ware)", "givers_of(book, ware)",
              "end_wares(book)", "tools_of(book, deed)", "within_of(book, lot)"),
    "bookchanges": ("with_deed(book, take, give)", "without_deed(book, deed)", "with_all(book, other)",
                    "kept_to(book, lot)", "scaled(book, deed, many)", "renamed(book, order)",
                    "shuffled(book, places)", "beside(book, other)", "turned_about(book)"),
    "wishes": ("is_wish(book, thing)", "unit_wish(book, ware)", "wished_wares(book, wish)",
               "worth_of(book, wish, fill)"),
    "amounttexts": ("price_text(one)", "row_line(row)", "fill_line(fill)"),
    "booktexts": ("book_line(book)",),
    "textreadings": ("read_price(text)", "read_row(text)", "read_fill(text)", "read_book(text)"),
    "stepping": ("can_do(book, fill, deed)", "most_times(book, fill, deed)", "after_step(book, fill, deed, times)",
                 "fill_by(book, fill, flux)"),
    "runkinds": ("is_step(book, thing)", "is_lap(book, thing)", "is_run(book, thing)", "flux_of(book, run)",
                 "run_times(book, run, times)", "steps_in(book, run)", "run_line(book, run)", "read_run(book, text)"),
    "running": ("stuck_at(book, fill, run)", "end_of(book, fill, run)", "lowest_of(book, fill, run)",
                "worths_along(book, wish, fill, run)"),
    "lots": ("closed_from(book, lot)", "is_closed(book, lot)", "closed_lots(book)"),
    "openings": ("opening_of(book, lot)", "lets_opening(book, lot, thing)", "opening_run(book, fill, near)"),
    "traps": ("is_trap(book, lot)", "trap_within(book, lot)", "all_traps(book)"),
    "closings": ("closing_of(book, lot)", "lets_closing(book, lot, thing)", "closing_run(book, fill, near)"),
    "straights": ("is_straight(book, fill, flux)", "straight_run(book, fill, flux)"),
    "rests": ("at_rest(book, fill)", "ranks_of(book)", "rest_order(book)", "rest_run(book, fill)"),
    "pricekinds": ("never_rises(book, row)", "never_falls(book, row)", "keeps(book, deed, row)",
                   "is_price_row(book, wish, thing)"),
    "mosts": ("most_of(book, wish, fill)",),
    "pricepapers": ("price_paper(book, wish, fill)", "lets_price(book, wish, fill, thing)"),
    "fluxpapers": ("flux_paper(book, wish, fill)", "lets_flux(book, wish, fill, thing)"),
    "endlesspapers": ("endless_paper(book, wish, fill)", "lets_endless(book, wish, fill, thing)"),
    "runfors": ("run_for(book, wish, fill, worth)",),
    "following": ("follows(book, fill, goal)", "stretch_of(book, fill, goal)", "goal_run(book, fill, goal, near)"),
    "followpapers": ("follow_paper(book, fill, goal)", "lets_follow(book, fill, goal, thing)"),
    "samebooks": ("deed_follows(book, take, give)", "says_same(book, other)", "said_apart(book, other)",
                  "idle_deeds(book)", "core_of(book)"),
    "tariffkinds": ("is_tariff(many, thing)", "least_of(rows, fill)", "told_by(rows, fill)", "least_at(rows, row)"),
    "corners": ("corners_of(book, wish, lot)", "corner_rows(book, wish)"),
    "trimming": ("is_needless(rows, place)", "trimmed(rows)", "mixture_of(rows, place)",
                 "lets_mixture(rows, place, thing)"),
    "spots": ("spot_of(rows, place)", "lets_spot(rows, place, thing)"),
    "tariffs": ("tariff_of(book, wish)",),
    "tariffchecks": ("lets_tariff(book, wish, thing)",),
    "partings": ("tariffs_apart(rows, other)", "books_apart(book, other, wish)"),
    "tariffsums": ("tariff_plus(rows, other)", "tariff_less(rows, other)", "tariff_times(rows, factor)",
                   "tariff_beside(rows, other)", "cut_to(rows, lot)"),
    "putting": ("put_in(many, rows, tariffs)",),
    "tarifftexts": ("tariff_text(rows)", "read_tariff(many, text)"),
    "sandwiches": ("sandwich_of(book, wish, hands, place)", "lets_sandwich(book, wish, hands, place, thing)"),
    "shares": ("row_share(book, wish, hands, place)", "share_table(book, wish, hands)",
               "sure_share(book, wish, hands)", "all_hands(book)"),
    "sharepapers": ("share_paper(book, wish, hands)", "lets_share(book, wish, hands, thing)"),
    "rights": ("harmless_deeds(book, wish)", "is_right(book, wish)", "unkept(book, wish)", "right_each(book)"),
    "losings": ("losing_deed(book, wish, hands)", "mosts_by(book, wish, fill, run)"),
    "losingruns": ("losing_run(book, wish, hands, near)", "lets_losing(book, wish, hands, near, thing)"),
    "restshares": ("losing_rest(book, wish, near)", "rests_alike(book, wish)"),
    "additions": ("lifts(book, wish, take, give)", "keeps_tariff(book, wish, take, give)",
                  "added(book, wish, take, give)", "put_together(book, wish, other)"),
    "takers": ("heard_deeds(book, wish)", "one_taker(book, wish)", "end_mosts(book, fill)",
               "had_together(book, fill)"),
    "modulechecker": ("lets_module(thing)", "is_module(thing)"),
    "modules": ("module_of(book, ins, outs)", "inner_of(module)", "module_fill(module, amounts)",
                "module_wish(module, weights)", "goal_fill(module, goal)",
                "doors_turned(module, in_order, out_order)"),
    "doormosts": ("door_most(module, weights, amounts)", "door_each(module, amounts)"),
    "doortariffs": ("door_tariff(module, door)", "door_tariffs(module)"),
    "rightmodules": ("is_right_module(module)", "unkept_door(module)"),
    "layers": ("layers_of(many, tariffs)", "joiner_of(weights)"),
    "twins": ("has_twin(module)", "twin_of(module)"),
    "makings": ("makes(module, amounts, goal)", "making_paper(module, amounts, goal)",
                "lets_making(module, amounts, goal, thing)", "making_stretch(module, amounts, goal)"),
    "alikes": ("alike_modules(module, other)", "modules_apart(module, other)", "lets_apart(module, other, thing)"),
    "moduleclasses": ("read_module(text)",),
    "wiringchecker": ("lets_wiring(thing)", "is_wiring(thing)", "is_house(thing)"),
    "houses": ("house_of(wiring, *modules)", "flat_of(house)", "house_fill(house, fill)", "house_wish(house, weights)",
               "with_module(house, seat, module)", "joined_house(module, weights)"),
    "ways": ("shared_wires(wiring)", "heard_seats(wiring)", "is_safe(wiring)", "way_out(wiring, seat)",
             "ring_seats(wiring)", "seat_order(wiring)"),
    "breakings": ("breaking_of(wiring)", "lets_breaking(wiring, thing)"),
    "reachedwires": ("is_tariffs(wiring, thing)", "reached_wires(wiring, tariffs, lot)"),
    "linking": ("linked_most(wiring, tariffs, weights, fill)",),
    "linkpapers": ("link_paper(wiring, tariffs, weights, fill)", "lets_link(wiring, tariffs, weights, fill, thing)"),
    "linkflows": ("flow_paper(wiring, tariffs, weights, fill)", "lets_flow(wiring, tariffs, weights, fill, thing)",
                  "endless_flow(wiring, tariffs, weights, fill)",
                  "lets_endless_flow(wiring, tariffs, weights, fill, thing)"),
    "chaining": ("chained_tariffs(wiring, tariffs)",),
    "swaps": ("can_swap(house, seat, module)", "parting_houses(module, other)"),
    "housetexts": ("wiring_line(wiring)", "read_wiring(text)"),
    "grains": ("grain_of(book, wish, fill, ware)", "grained_most(book, wish, fill, lot)"),
    "courses": ("course_of(book, wish, fill, ware)",),
    "buying": ("least_cost(book, wish, fill, worth, costs)", "bought_for(book, wish, fill, worth, costs)"),
    "buypapers": ("cost_paper(book, wish, fill, worth, costs)", "lets_cost(book, wish, fill, worth, costs, thing)"),
    "liveevents": ("is_event(size, thing)", "is_log(size, thing)"),
    "reasons": ("reason_of(book, wish, fill, event)",),
    "journals": ("replayed(book, wish, fill, log)", "cut_log(log, many)", "days_of(book, wish, fill, log)"),
    "eventtexts": ("event_line(event)", "read_event(text)", "log_text(log)", "read_log(text)"),
    "desk": ("desk_line(live, text)",),
}
CLASSES = {
    ("bookclasses", "Book"): ("__init__(self, size, *deeds)", "change(self, deed)", "takers(self, ware)",
                              "ends(self)", "with_deed(self, take, give)", "told(self)", "__add__(self, other)",
                              "__eq__(self, other)", "__len__(self)"),
    ("runclasses", "Shelf"): ("__init__(self, book, fill)", "can(self, deed)", "most(self, deed)",
                              "do(self, deed, times)", "go(self, run)", "stands(self)", "rests(self)", "did(self)",
                              "told(self)", "__eq__(self, other)"),
    ("mostclasses", "Mosts"): ("__init__(self, book, wish)", "most(self, fill)", "price(self, fill)",
                               "flux(self, fill)", "endless(self, fill)", "run(self, fill, worth)", "told(self)",
                               "__eq__(self, other)"),
    ("tariffclasses", "Tariff"): ("__init__(self, many, *rows)", "told(self)", "least(self, fill)",
                                  "spot(self, place)", "plus(self, other)", "less(self, other)", "cut(self, lot)",
                                  "apart(self, other)", "__eq__(self, other)", "__len__(self)"),
    ("shareclasses", "Share"): ("__init__(self, book, wish, hands)", "share(self)", "harmless(self)", "right(self)",
                                "rows(self)", "sandwich(self, place)", "lose(self, near)", "keeps(self, take, give)",
                                "told(self)", "__eq__(self, other)"),
    ("moduleclasses", "Module"): ("__init__(self, book, ins, outs)", "most(self, weights, amounts)",
                                  "each(self, amounts)", "tariff(self, door)", "right(self)", "twin(self)",
                                  "makes(self, amounts, goal)", "like(self, other)", "told(self)", "line(self)",
                                  "__eq__(self, other)"),
    ("houseclasses", "House"): ("__init__(self, wiring, *modules)", "most(self, weights, fill)",
                                "linked(self, weights, fill)", "flat(self)", "safe(self)", "swap(self, seat, module)",
                                "told(self)", "__eq__(self, other)"),
    ("liveasks", "LiveAsks"): ("__init__(self, book, wish, fill)", "stands(self)", "book_now(self)", "came(self)",
                               "handed(self)", "most(self)", "still(self)", "at_first(self)", "done(self)", "share(self)",
                               "losses(self)", "grain(self, ware)", "right(self)", "cost(self, worth, costs)"),
    ("live", "LiveStore"): ("__init__(self, book, wish, fill)", "bring(self, ware, amount)", "do(self, deed, times)",
                            "go(self, run)", "hand(self, ware, amount)", "learn(self, take, give)", "day(self)",
                            "event(self, event)", "barred(self, event)", "do_all(self, events, keep=False)",
                            "undo(self, steps=1)", "tried(self, events)", "log(self)", "__eq__(self, other)"),
}


def found(file, name):
    return getattr(importlib.import_module("stillhad." + file), name)


class InterfaceTest(unittest.TestCase):
    def test_functions(self):
        for file, wanted in FUNCTIONS.items():
            for one in wanted:
                name = one.partition("(")[0]
                function = found(file, name)
                self.assertTrue(inspect.isfunction(function), name)
                self.assertEqual(name + str(inspect.signature(function)), one)
                self.assertEqual(function.__module__, "stillhad." + file)

    def test_classes(self):
        for (file, name), wanted in CLASSES.items():
            kind = found(file, name)
            self.assertEqual(kind.__module__, "stillhad." + file)
            for one in wanted:
                method = one.partition("(")[0]
                self.assertIn(method, vars(kind), name)
                self.assertEqual(method + str(inspect.signature(vars(kind)[method])), one)


if __name__ == "__main__":
    unittest.main()
