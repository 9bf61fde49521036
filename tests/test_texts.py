"""Point 20, and the texts of point 24: what is written is read back, and nothing else is."""

import unittest
from itertools import product
from random import Random

from stillhad.amounttexts import fill_line, price_text, row_line
from stillhad.bookchecker import is_book
from stillhad.booktexts import book_line
from stillhad.errors import HadError, InvalidRow, InvalidText, TextError
from stillhad.runkinds import read_run, run_line
from stillhad.textreadings import read_book, read_fill, read_price, read_row
from tests.helpers import (
    BARE, ENDLESS, FORK, HALF, NOUGHT, ONE, SPRING, TOOL, TWO, fields, some_books, some_fill, some_run)

LAPS = ((3, ((0, HALF), (1, TWO))), (1, ((2, (1, 1)),)))
NOT_PRICE_WORDS = ("", "o", "ooo", "00", "01", "-1", "+1", "1/1", "2/4", "0/2", "0/1", "1/0", "/2", "1/", "1/2/3", "a",
                   "1.5", "1\n", " ", "1;", "-", "01/2", "1/02", "oo/1", "1_0", "2/1", "oO")


class Texts(unittest.TestCase):
    def wrong(self, field, read, *given):
        with self.assertRaises(InvalidText) as caught:
            read(*given)
        self.assertEqual(fields(caught.exception), (0, field), given)
        self.assertIsInstance(caught.exception, TextError)


class AmountTextsTest(Texts):
    def test_prices(self):
        for price, text in ((ENDLESS, "oo"), (NOUGHT, "0"), (HALF, "1/2"), (TWO, "2"), ((10 ** 12, 7), "1000000000000/7"),
                            ((7, 10 ** 60), "7/1" + "0" * 60)):
            self.assertEqual(price_text(price), text)
            self.assertEqual(read_price(text), price)
            self.assertEqual(row_line((price, price)), text + " " + text)
            self.wrong(1, read_price, text + " ")
            self.wrong(1, read_price, text + " 1")
        for text in NOT_PRICE_WORDS:
            self.wrong(0, read_price, text)
        self.wrong(0, read_price, " 1")

    def test_rows(self):
        self.assertEqual(read_row("0 oo 1/2"), (NOUGHT, ENDLESS, HALF))
        self.assertEqual(row_line((NOUGHT, ENDLESS, HALF)), "0 oo 1/2")
        self.assertEqual((row_line(()), fill_line(()), read_row("-"), read_fill("-")), ("-", "-", (), ()))
        self.assertEqual(fill_line((TWO, (3, 4))), "2 3/4")
        self.assertEqual(read_fill("2 3/4"), (TWO, (3, 4)))
        for word in NOT_PRICE_WORDS:
            for read in (read_row, read_fill):
                if word not in ("-", " "):
                    self.wrong(0, read, word)
                    self.wrong(0, read, word + " 1 x")
                if word != " ":
                    self.wrong(2, read, "1 1/3 " + word)
        self.wrong(1, read_row, "- 1")
        self.wrong(1, read_row, "- ")
        self.wrong(1, read_fill, "- -")
        self.wrong(1, read_row, "1  1")
        self.wrong(1, read_row, "1 ")
        self.wrong(1, read_fill, "1 oo")
        self.wrong(0, read_fill, "oo")

    def test_back(self):
        chance = Random(4)
        for _ in range(200):
            fill = some_fill(chance, chance.randint(0, 5))
            row = tuple(ENDLESS if chance.random() < 0.3 else amount for amount in fill)
            self.assertEqual(read_fill(fill_line(fill)), fill)
            self.assertEqual(read_row(row_line(row)), row)

    def test_only_their_own(self):
        for signs in product("0129o/ -", repeat=4):
            text = "".join(signs)
            for read, write in ((read_price, price_text), (read_row, row_line), (read_fill, fill_line)):
                try:
                    told = read(text)
                except InvalidText:
                    continue
                self.assertEqual(write(told), text)


class BookTextsTest(Texts):
    def test_document(self):
        self.wrong(5, read_book, "3; 1 1 0 >")

    def test_lines(self):
        self.assertEqual(book_line(TOOL), "3; 1 1 0 > 0 1 1")
        self.assertEqual(book_line(BARE), "2")
        self.assertEqual(book_line(SPRING), "1; 0 > 1")
        self.assertEqual(book_line(FORK), "4; 1 0 0 0 > 0 1 0 0; 1 0 0 0 > 0 0 1 0; 0 1 1 0 > 0 0 0 1")
        for book in (TOOL, BARE, SPRING, FORK, (1, (((10 ** 60,), (10 ** 12,)),) * 3)):
            self.assertEqual(read_book(book_line(book)), book)
        for book in some_books(80, 5):
            self.assertEqual(read_book(book_line(book)), book)

    def test_wrong_fields(self):
        for text, field in (
                ("", 0), ("x", 0), ("03", 0), ("-1", 0), (";", 0), (" 3", 0), ("3 ", 1), ("3 1", 1), ("3;", 1),
                ("3; ", 1), ("3;;", 0), ("3; >", 1), ("3; 1;", 1), ("3; 1", 2), ("3; 1 1", 3), ("3; 1 >", 3),
                ("3; 1 > ", 3), ("3; 1 > >", 3), ("3; 1 > 1;", 4), ("3; 1 > 1; ", 4), ("3; 1 > 1; 1", 5),
                ("3; 1 > 1 >", 4), ("3; 1 > 1; > 1", 4), ("3; 1 > 1; 1 > 01", 6), ("3; 1 > 1/2", 3), ("3; oo > 1", 1),
                ("3;1 > 1", 0), ("3; 1> 1", 1), ("3; 1  > 1", 2), ("3; 1 > 1 ;", 4), ("3; 1 > 1;; 1 > 1", 3),
                ("3; -", 1), ("3\n", 0), ("3; 1 > 1 ", 4)):
            self.wrong(field, read_book, text)

    def test_no_books(self):
        for text in ("0", "3; 1 > 0 1 1", "3; 1 1 0 > 0 1", "3; 1 1 0 0 > 0 1 1", "0; 1 > 1", "1; 0 > 1; 0 0 > 1",
                     "1; 0 > 1 1"):
            with self.assertRaises(InvalidRow) as caught:
                read_book(text)
            self.assertEqual(fields(caught.exception), (0,))
            self.assertIsInstance(caught.exception, TextError)
        # Of a bad field and no book, the field comes first.
        self.wrong(3, read_book, "0; 1 > x")

    def test_only_their_own(self):
        for signs in product(("1", "0", " ", ";", ">", "; ", " > "), repeat=5):
            text = "".join(signs)
            try:
                told = read_book(text)
            except HadError:
                continue
            self.assertTrue(is_book(told))
            self.assertEqual(book_line(told), text)

    def test_first_bad_field(self):
        # A field is bad exactly if no good text goes on so: each prefix that is not refused can be ended.
        endings = ("", " 1", " > 1", " 1 > 1")
        for words in product(("2", "2;", ">", "x"), repeat=5):
            text = " ".join(words)
            try:
                read_book(text)
                bad = None
            except InvalidText as error:
                bad = error.field
            except InvalidRow:
                bad = None
            if bad is None:
                continue
            self.assertLessEqual(bad, 5)
            ahead = " ".join(words[:bad])
            self.assertTrue(bad == 0 or any(self.goes(ahead + ending) for ending in endings), text)
            if bad < 5:
                with_bad = " ".join(words[:bad + 1])
                self.assertFalse(any(self.goes(with_bad + ending) for ending in endings), text)

    def goes(self, text):
        try:
            read_book(text)
        except InvalidText:
            return False
        except InvalidRow:
            return True
        return True


class RunTextsTest(Texts):
    def test_document(self):
        self.assertEqual(run_line(FORK, LAPS), "3 0 1/2 1 2; 1 2 1")
        self.assertEqual(read_run(FORK, "3 0 1/2 1 2; 1 2 1"), LAPS)
        self.assertEqual((run_line(FORK, ()), read_run(FORK, "-")), ("-", ()))
        for text, field in (("1 0 1; 2 5 1", 4), ("- 3", 1), ("1 0 2/4", 2), ("3 0", 2), ("", 0)):
            self.wrong(field, read_run, FORK, text)

    def test_wrong_fields(self):
        for text, field in (
                ("0 0 1", 0), ("x", 0), (" ", 0), ("1", 1), ("1;", 0), ("1/2 0 1", 0), ("1 3 1", 1), ("1 01 1", 1),
                ("1 0; 1", 1), ("1 -1 1", 1), ("1 0 0", 2), ("1 0 oo", 2), ("1 0 1;", 3), ("1 0 1; ", 3), ("1 0 1 ", 3),
                ("1 0 1; 0", 3), ("1 0 1; 1", 4), ("1 0 1 2", 4), ("1 0 1 2 1 3", 5), ("1 0 1; -", 3), ("-;", 0),
                ("1 0 1;; 1 0 1", 2), ("1 0 1/1", 2), ("01 0 1", 0), ("- ", 1), ("1  0 1", 1), ("1 0 1\n", 2)):
            self.wrong(field, read_run, FORK, text)

    def test_no_deeds(self):
        self.assertEqual(read_run(BARE, "-"), ())
        # No run of this book has any laps, so not even turns may stand there.
        for text in ("1", "1 0 1", "x", ""):
            self.wrong(0, read_run, BARE, text)
        self.wrong(1, read_run, BARE, "- 1")

    def test_back(self):
        chance = Random(6)
        for book in some_books(120, 6):
            run = some_run(chance, book)
            self.assertEqual(read_run(book, run_line(book, run)), run)
        large = ((10 ** 12 + 5, ((2, (10 ** 60, 7)), (0, (1, 10 ** 40)))),)
        self.assertEqual(read_run(FORK, run_line(FORK, large)), large)

    def test_only_their_own(self):
        for signs in product(("1", "0", " ", ";", "-", "; ", "1/2"), repeat=5):
            text = "".join(signs)
            try:
                told = read_run(FORK, text)
            except InvalidText:
                continue
            self.assertEqual(run_line(FORK, told), text)
        self.assertEqual(read_run(FORK, "1 0 1"), ((1, ((0, ONE),)),))


if __name__ == "__main__":
    unittest.main()
