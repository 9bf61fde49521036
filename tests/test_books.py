"""Points 16 to 19, 21 and 22: books, their changes, wishes and Book."""

import unittest
from random import Random

from stillhad.bookchanges import (
    beside, kept_to, renamed, scaled, shuffled, turned_about, with_all, with_deed, without_deed)
from stillhad.bookchecker import is_book, is_deed, lets_book
from stillhad.bookclasses import Book
from stillhad.books import (
    book_of, change_of, end_wares, givers_of, takers_of, tools_of, within_of)
from stillhad.errors import InvalidPaper, NotUsable, PaperError
from stillhad.rowsums import priced
from stillhad.wishes import is_wish, unit_wish, wished_wares, worth_of
from tests.helpers import (
    BARE, FORK, GROW, ODD, SINK, SPRING, TOOL, TWO, WISH, ends_of, fields, some_books, some_fill, some_wish)

GOOD = ((1, 0), (0, 2))


class CheckerTest(unittest.TestCase):
    def refused(self, thing, word, at):
        with self.assertRaises(InvalidPaper) as caught:
            lets_book(thing)
        self.assertEqual(fields(caught.exception), (word, at), thing)
        self.assertIsInstance(caught.exception, PaperError)
        self.assertIs(is_book(thing), False)

    def test_good(self):
        for book in (FORK, TOOL, GROW, SPRING, SINK, BARE, (10 ** 60, ()), (1, (((10 ** 60,), (0,)),) * 30)):
            self.assertEqual(lets_book(book), len(book[1]))
            self.assertIs(is_book(book), True)

    def test_document(self):
        self.refused((2, (((1, 0), (0, True)),)), "give", 0)

    def test_faults(self):
        for thing in ODD + ((2,), (2, (), ()), [2, ()]):
            self.refused(thing, "shape", -1)
        for size in (0, -1, True, None, "2", (2,)):
            self.refused((size, ()), "size", -1)
            self.refused((size, []), "size", -1)
        for deeds in ([], None, 0, "", [GOOD]):
            self.refused((2, deeds), "deeds", -1)
        for deed in (None, (), (GOOD[0],), list(GOOD), GOOD + ((),), "ab", 5):
            if deed != "ab":
                self.refused((2, (GOOD, deed, None)), "shape", 1)
        for numbers in ([1, 0], (1,), (1, 0, 0), (1, -1), (True, 0), (1, None), None, "10", 3):
            self.refused((2, (GOOD, (numbers, None), None)), "take", 1)
            self.refused((2, (GOOD, GOOD, (GOOD[0], numbers), None)), "give", 2)
            self.assertIs(is_deed(2, (numbers, GOOD[0])), False)
            self.assertIs(is_deed(2, (GOOD[0], numbers)), False)

    def test_is_deed(self):
        self.assertIs(is_deed(2, GOOD), True)
        self.assertIs(is_deed(1, GOOD), False)
        self.assertIs(is_deed(3, GOOD), False)
        for thing in ODD:
            self.assertIs(is_deed(1, thing), False)


class BooksTest(unittest.TestCase):
    def test_document(self):
        self.assertEqual((change_of(TOOL, 0), tools_of(TOOL, 0), end_wares(TOOL), within_of(FORK, (0, 1))),
                         ((-1, 0, 1), (1,), (2,), (0, 1)))

    def test_book_of(self):
        self.assertEqual(book_of(*(FORK[0], *FORK[1])), FORK)
        self.assertEqual(book_of(3), (3, ()))
        with self.assertRaises(NotUsable) as caught:
            book_of(2, GOOD, (GOOD[0], (1,)), None)
        self.assertEqual(fields(caught.exception), ("deeds", 1))

    def test_within(self):
        self.assertEqual(within_of(SPRING, ()), (0,))
        self.assertEqual(within_of(FORK, ()), ())
        self.assertEqual(within_of(FORK, (0, 1, 2)), (0, 1, 2))
        self.assertEqual(within_of((2, (((0, 0), (0, 0)), ((0, 1), (0, 0)))), (0,)), (0,))

    def test_all(self):
        for book in some_books(60, 1):
            size, deeds = book
            self.assertEqual(end_wares(book), tuple(ends_of(book)))
            for ware in range(size):
                self.assertEqual(takers_of(book, ware), tuple(k for k, deed in enumerate(deeds) if deed[0][ware]))
                self.assertEqual(givers_of(book, ware), tuple(k for k, deed in enumerate(deeds) if deed[1][ware]))
            for k, (take, give) in enumerate(deeds):
                self.assertEqual(change_of(book, k), tuple(give[ware] - take[ware] for ware in range(size)))
                self.assertEqual(tools_of(book, k), tuple(ware for ware in range(size) if take[ware] and give[ware]))


class ChangesTest(unittest.TestCase):
    def test_document(self):
        self.assertEqual(renamed(TOOL, (2, 0, 1)), (3, (((1, 0, 1), (1, 1, 0)),)))
        self.assertEqual(beside((1, ()), TOOL), (4, (((0, 1, 1, 0), (0, 0, 1, 1)),)))

    def test_deeds(self):
        one, two, three = FORK[1]
        self.assertEqual(with_deed(FORK, WISH, WISH), (4, (one, two, three, (WISH, WISH))))
        self.assertEqual(without_deed(FORK, 1), (4, (one, three)))
        self.assertEqual(without_deed(TOOL, 0), (3, ()))
        self.assertEqual(with_all(FORK, FORK), (4, FORK[1] * 2))
        self.assertEqual(kept_to(FORK, (1, 2)), (4, (three,)))
        self.assertEqual(kept_to(SPRING, ()), SPRING)
        self.assertEqual(scaled(TOOL, 0, 3), (3, (((3, 3, 0), (0, 3, 3)),)))
        self.assertEqual(scaled(FORK, 1, 10 ** 12)[1][1], ((10 ** 12, 0, 0, 0), (0, 0, 10 ** 12, 0)))
        self.assertEqual(shuffled(FORK, (2, 0, 1)), (4, (three, one, two)))
        self.assertEqual(shuffled(BARE, ()), BARE)
        self.assertEqual(beside(TOOL, (1, (((2,), (3,)),))),
                         (4, (((1, 1, 0, 0), (0, 1, 1, 0)), ((0, 0, 0, 2), (0, 0, 0, 3)))))
        self.assertEqual(turned_about(TOOL), (3, (((0, 1, 1), (1, 1, 0)),)))

    def test_back(self):
        chance = Random(2)
        for book in some_books(60, 2):
            size, deeds = book
            self.assertEqual(turned_about(turned_about(book)), book)
            order = tuple(chance.sample(range(size), size))
            back = tuple(order.index(ware) for ware in range(size))
            self.assertEqual(renamed(renamed(book, order), back), book)
            other = renamed(book, order)
            for k, (take, give) in enumerate(deeds):
                for ware in range(size):
                    self.assertEqual(other[1][k][0][order[ware]], take[ware])
                    self.assertEqual(other[1][k][1][order[ware]], give[ware])
            self.assertEqual(without_deed(with_deed(book, (1,) * size, (2,) * size), len(deeds)), book)
            self.assertEqual(kept_to(book, tuple(range(size))), book)


class WishesTest(unittest.TestCase):
    def test_document(self):
        self.assertEqual(worth_of(TOOL, (0, 0, 2), ((1, 1), (1, 1), (3, 4))), (3, 2))

    def test_is_wish(self):
        self.assertIs(is_wish(FORK, WISH), True)
        self.assertIs(is_wish(BARE, (0, 10 ** 60)), True)
        self.assertIs(is_wish(SINK, (0, 1)), True)
        for thing in ((0, 0, 0, 0), (0, 0, 1, 1), (1, 0, 0, 0), (0, 0, 0, True), (0, 0, 1), (0, 0, 0, 0, 1), list(WISH),
                      (0, 0, 0, -1), (0, 0, 0, (1, 1))) + ODD:
            self.assertIs(is_wish(FORK, thing), False, thing)

    def test_wares(self):
        self.assertEqual(unit_wish(FORK, 3), WISH)
        self.assertEqual(unit_wish(BARE, 0), (1, 0))
        self.assertEqual(wished_wares(BARE, (2, 3)), (0, 1))
        self.assertEqual(wished_wares(BARE, (0, 3)), (1,))
        with self.assertRaises(NotUsable):
            unit_wish(TOOL, 1)

    def test_worth(self):
        chance = Random(3)
        for book in some_books(60, 3):
            wish = some_wish(chance, book)
            if wish:
                fill = some_fill(chance, book[0])
                self.assertEqual(worth_of(book, wish, fill), priced(tuple((part, 1) for part in wish), fill))
        self.assertEqual(worth_of(BARE, (10 ** 6, 0), ((10 ** 12 + 1, 10 ** 12), TWO)), (10 ** 12 + 1, 10 ** 6))


class BookTest(unittest.TestCase):
    def test_told(self):
        book = Book(*(FORK[0], *FORK[1]))
        self.assertEqual(book.told(), FORK)
        self.assertEqual(len(book), 3)
        self.assertEqual(len(Book(2)), 0)
        self.assertEqual(book.ends(), (3,))
        self.assertEqual(book.takers(0), (0, 1))
        self.assertEqual(book.change(2), (0, -1, -1, 1))
        self.assertEqual(Book(size=2).told(), BARE)

    def test_never_changes(self):
        book = Book(*(TOOL[0], *TOOL[1]))
        more = book.with_deed((0, 0, 0), (0, 0, 1))
        self.assertEqual(more.told(), (3, TOOL[1] + (((0, 0, 0), (0, 0, 1)),)))
        self.assertIsInstance(more, Book)
        both = book + more
        self.assertIsInstance(both, Book)
        self.assertEqual(both.told(), (3, TOOL[1] + more.told()[1]))
        self.assertEqual((len(book), len(more), len(both)), (1, 2, 3))
        self.assertEqual(book.told(), TOOL)
        with self.assertRaises(NotUsable):
            book.with_deed((0, 0, 0), (0, 0))
        self.assertEqual(book.told(), TOOL)

    def test_same(self):
        book = Book(*(TOOL[0], *TOOL[1]))
        self.assertIs(book == Book(*(TOOL[0], *TOOL[1])), True)
        self.assertIs(book != Book(*(TOOL[0], *TOOL[1])), False)
        for other in (Book(3), Book(2), TOOL, None, 1, "", book + book):
            self.assertIs(book == other, False)
            self.assertIs(book != other, True)
        self.assertEqual(book + Book(3), book)
        self.assertIs(Book(3) == Book(4), False)


if __name__ == "__main__":
    unittest.main()
