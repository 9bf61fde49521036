"""Every name of the interface stands in its file, with its parameters under their names."""

import importlib
import inspect
import unittest

FUNCTIONS = {
    "kinds": ("is_integer(thing)", "is_number(thing)", "is_quotient(thing)", "is_price(thing)", "is_fill(size, thing)",
              "is_row(size, thing)", "is_lot(size, thing)"),
    "quotients": ("quotient_of(top, bottom)", "plus(one, other)", "product(one, other)", "minus(one, other)",
                  "over(one, other)", "less(one, other)"),
    "rowsums": ("priced(row, fill)", "row_plus(row, other)", "row_times(row, factor)", "row_below(row, other)",
                "row_mixed(rows, weights)", "open_of(row)", "support_of(fill)", "fill_plus(fill, other)",
                "fill_minus(fill, other)", "fill_times(fill, factor)", "fill_below(fill, other)"),
    "bookchecker": ("is_deed(size, thing)", "lets_book(thing)", "is_book(thing)"),
    "books": ("book_of(size, *deeds)", "change_of(book, deed)", "takers_of(book, ware)", "givers_of(book, ware)",
              "end_wares(book)", "tools_of(book, deed)", "within_of(book, lot)"),
    "bookchanges": ("with_deed(book, take, give)", "without_deed(book, deed)", "with_all(book, other)",
                    "kept_to(book, lot)", "scaled(book, deed, many)", "renamed(book, order)",
                    "shuffled(book, places)", "beside(book, other)", "turned_about(book)"),
    "wishes": ("is_wish(book, thing)", "unit_wish(book, ware)", "wished_wares(book, wish)",
               "worth_of(book, wish, fill)"),
    "amounttexts": ("price_text(one)", "row_line(row)", "fill_line(fill)"),
    "booktexts": ("book_line(book)",),
    "textreadings": ("read_price(text)", "read_row(text)", "read_fill(text)", "read_book(text)"),
    "stepping": ("can_do(book, fill, deed)", "most_times(book, fill, deed)", "after_step(book, fill, deed, times)",
                 "fill_by(book, fill, flux)"),
    "runkinds": ("is_step(book, thing)", "is_lap(book, thing)", "is_run(book, thing)", "flux_of(book, run)",
                 "run_times(book, run, times)", "steps_in(book, run)", "run_line(book, run)", "read_run(book, text)"),
    "running": ("stuck_at(book, fill, run)", "end_of(book, fill, run)", "lowest_of(book, fill, run)",
                "worths_along(book, wish, fill, run)"),
    "lots": ("closed_from(book, lot)", "is_closed(book, lot)", "closed_lots(book)"),
    "openings": ("opening_of(book, lot)", "lets_opening(book, lot, thing)", "opening_run(book, fill, near)"),
    "traps": ("is_trap(book, lot)", "trap_within(book, lot)", "all_traps(book)"),
    "closings": ("closing_of(book, lot)", "lets_closing(book, lot, thing)", "closing_run(book, fill, near)"),
    "straights": ("is_straight(book, fill, flux)", "straight_run(book, fill, flux)"),
    "rests": ("at_rest(book, fill)", "ranks_of(book)", "rest_order(book)", "rest_run(book, fill)"),
    "pricekinds": ("never_rises(book, row)", "never_falls(book, row)", "keeps(book, deed, row)",
                   "is_price_row(book, wish, thing)"),
    "mosts": ("most_of(book, wish, fill)",),
    "pricepapers": ("price_paper(book, wish, fill)", "lets_price(book, wish, fill, thing)"),
    "fluxpapers": ("flux_paper(book, wish, fill)", "lets_flux(book, wish, fill, thing)"),
    "endlesspapers": ("endless_paper(book, wish, fill)", "lets_endless(book, wish, fill, thing)"),
    "runfors": ("run_for(book, wish, fill, worth)",),
}
CLASSES = {
    ("bookclasses", "Book"): ("__init__(self, size, *deeds)", "change(self, deed)", "takers(self, ware)",
                              "ends(self)", "with_deed(self, take, give)", "told(self)", "__add__(self, other)",
                              "__eq__(self, other)", "__len__(self)"),
    ("runclasses", "Shelf"): ("__init__(self, book, fill)", "can(self, deed)", "most(self, deed)",
                              "do(self, deed, times)", "go(self, run)", "stands(self)", "rests(self)", "did(self)",
                              "told(self)", "__eq__(self, other)"),
}


def found(file, name):
    return getattr(importlib.import_module("stillhad." + file), name)


class InterfaceTest(unittest.TestCase):
    def test_functions(self):
        for file, wanted in FUNCTIONS.items():
            for one in wanted:
                name = one.partition("(")[0]
                function = found(file, name)
                self.assertTrue(inspect.isfunction(function), name)
                self.assertEqual(name + str(inspect.signature(function)), one)
                self.assertEqual(function.__module__, "stillhad." + file)

    def test_classes(self):
        for (file, name), wanted in CLASSES.items():
            kind = found(file, name)
            self.assertEqual(kind.__module__, "stillhad." + file)
            for one in wanted:
                method = one.partition("(")[0]
                self.assertIn(method, vars(kind), name)
                self.assertEqual(method + str(inspect.signature(vars(kind)[method])), one)


if __name__ == "__main__":
    unittest.main()
