"""[22] Books, with what [3], [4] and [12] say of them."""

import unittest

from helpers import HUGE, Case, doc_book, odd_values
from labeltill.books import Book
from labeltill.errors import NoChange, NoNumber, NoPrice, NotLater, Wrong
from labeltill.lines import Line

TWELVE = [(3 * moment - 9, [5, 7, 5, 9, 9, 0, 2, 2, 5, 7, 1, 3][moment]) for moment in range(12)]


def not_integers():
    return [value for value in odd_values() if not isinstance(value, int) or isinstance(value, bool)]


class BooksTest(Case):
    def test_no_change(self):
        for book in (Book(7), Book(7, []), Book(7, ()), Book(first=7, changes=[]), Book(7, changes=())):
            self.assertEqual(book.changes(), [])
            self.assertEqual(book.moments(), [])
            self.assertEqual(book.prices(), [7])
            self.assertEqual([len(book), list(book), book[0]], [1, [7], 7])
            self.assertEqual([book.at(-HUGE), book.at(0), book.at(HUGE)], [(0, 0)] * 3)
            self.assertIsNone(book.first_at(7))

    def test_one_change(self):
        book = Book(0, [(-4, 9)])
        self.assertEqual([book.changes(), book.moments(), book.prices()], [[(-4, 9)], [-4], [0, 9]])
        self.assertEqual([book.at(-5), book.at(-4), book.at(-3)], [(0, 0), (0, 1), (1, 1)])
        self.assertEqual([book.first_at(0), book.first_at(9)], [None, -4])

    def test_twelve_changes(self):
        for changes in (TWELVE, tuple(TWELVE)):
            book = Book(5, changes)
            self.assertEqual(book.changes(), TWELVE)
            self.assertEqual(book.moments(), [moment for moment, _ in TWELVE])
            self.assertEqual(book.prices(), [5] + [price for _, price in TWELVE])
            self.assertEqual([len(book), list(book)], [13, book.prices()])
            self.assertEqual([book[number] for number in range(13)], book.prices())
            for index, (moment, _) in enumerate(TWELVE):
                self.assertEqual(book.at(moment - 1), (index, index))
                self.assertEqual(book.at(moment), (index, index + 1))
                self.assertEqual(book.at(moment + 1), (index + 1, index + 1))

    def test_moments_next_to_each_other(self):
        book = Book(1, [(0, 2), (1, 3)])
        self.assertEqual([book.at(moment) for moment in (-1, 0, 1, 2)], [(0, 0), (0, 1), (1, 2), (2, 2)])

    def test_results_are_tuples_and_lists(self):
        book = doc_book()
        self.assertIs(book.at(10).__class__, tuple)
        for answer in (book.changes(), book.moments(), book.prices()):
            self.assertIs(answer.__class__, list)

    def test_first_at(self):
        book = Book(5, TWELVE)
        self.assertIsNone(book.first_at(5))
        for price, moment in ((7, -6), (9, 0), (0, 6), (2, 9), (1, 21), (3, 24)):
            self.assertEqual(book.first_at(price), moment)
        self.assertIsNone(Book(1, [(0, 1), (1, 1)]).first_at(1))
        for value in odd_values() + [4, 6, HUGE]:
            if not (isinstance(value, int) and value in book.prices() and not isinstance(value, bool)):
                self.fails(NoPrice, "price", value, book.first_at, value)
        self.fails(NoPrice, "price", True, Book(1, [(5, 0)]).first_at, True)
        self.fails(NoPrice, "price", False, Book(1, [(5, 0)]).first_at, False)

    def test_numbers(self):
        for book in (Book(1), Book(1, [(5, 0)]), Book(5, TWELVE)):
            for value in odd_values() + [len(book), len(book) + 1, HUGE, slice(0, 1), slice(None)]:
                self.fails(NoNumber, "number", value, book.__getitem__, value)
        with self.assertRaises(NoNumber):
            doc_book()[3]
        with self.assertRaises(NoNumber):
            doc_book()[-1]

    def test_wrong_first(self):
        for value in odd_values():
            self.fails(Wrong, "place", 0, Book, value)
            self.fails(Wrong, "place", 0, Book, value, [(0, 1)])
            self.fails(Wrong, "place", 0, Book, value, value)
            self.fails(Wrong, "place", 0, Book, value, [(1, 1), (0, 1)])

    def test_wrong_changes(self):
        for value in odd_values():
            if value != ():
                self.fails(Wrong, "place", 1, Book, 1, value)
            self.fails(Wrong, "place", 1, Book, 1, [value])
            self.fails(Wrong, "place", 1, Book, 1, (value,))
            self.fails(Wrong, "place", 1, Book, 1, [(0, 1), value])
            self.fails(Wrong, "place", 1, Book, 1, ((0, value),))
        for value in not_integers():
            self.fails(Wrong, "place", 1, Book, 1, [(value, 1)])
        for changes in ((0, 1), [0, 1], [[0, 1]], [(0,)], [(0, 1, 2)], [(0, -1)], {(0, 1): (0, 1)}, "", {}, 0, [()]):
            self.fails(Wrong, "place", 1, Book, 1, changes)

    def test_wrong_is_ahead_of_not_later(self):
        self.fails(Wrong, "place", 1, Book, 1, [(1, 1), (0, 1), (5, -1)])
        with self.assertRaises(Wrong) as context:
            Book(1, changes=[(1, 1), (1, 1), None])
        self.assertEqual(context.exception.place, 1)

    def test_not_later(self):
        for moments, index in (([1, 1], 1), ([1, 0], 1), ([0, 1, 1], 2), ([0, 2, 1, 1], 2), ([3, 4, 4, 2], 2),
                               ([5, 4, 3], 1), ([-1, -2], 1), ([0, 9, 8, 9], 2)):
            for kind in (list, tuple):
                with self.assertRaises(NotLater) as context:
                    Book(1, kind([(moment, 1) for moment in moments]))
                self.assertEqual(context.exception.index, index)

    def test_moved(self):
        for by in (0, 5, -5, HUGE, -HUGE):
            book = Book(5, TWELVE)
            moved = book.moved(by)
            self.assertEqual(moved.changes(), [(moment + by, price) for moment, price in TWELVE])
            self.assertEqual(moved.prices(), book.prices())
            self.assertEqual(book.changes(), TWELVE)
            for moment in range(-12, 30):
                self.assertEqual(moved.at(moment + by), book.at(moment))

    def test_scaled(self):
        for by in (1, 2, HUGE):
            book = Book(5, TWELVE)
            scaled = book.scaled(by)
            self.assertEqual(scaled.prices(), [price * by for price in book.prices()])
            self.assertEqual(scaled.changes(), [(moment, price * by) for moment, price in TWELVE])
            self.assertEqual(book.changes(), TWELVE)
            self.assertEqual(scaled.first_at(9 * by), 0)

    def test_with_change(self):
        book = doc_book()
        for change, changes in (((5, 1), [(5, 1), (10, 250), (20, 400)]), ((10, 1), [(10, 1), (20, 400)]),
                                ((11, 1), [(10, 250), (11, 1), (20, 400)]), ((20, 1), [(10, 250), (20, 1)]),
                                ((21, 0), [(10, 250), (20, 400), (21, 0)]), ((-3, 300), [(-3, 300), *book.changes()])):
            answer = book.with_change(*change)
            self.assertIs(answer.__class__, Book)
            self.assertEqual([answer.prices()[0], answer.changes()], [300, changes])
            self.assertEqual(book, doc_book())
        self.assertEqual(Book(3).with_change(0, 4), Book(3, [(0, 4)]))

    def test_with_change_wrong(self):
        book = doc_book()
        for value in not_integers():
            self.fails(Wrong, "place", 0, book.with_change, value, 1)
            self.fails(Wrong, "place", 0, book.with_change, value, -1)
        for value in odd_values():
            self.fails(Wrong, "place", 1, book.with_change, 0, value)
        self.assertEqual(book, doc_book())

    def test_without(self):
        book = doc_book()
        self.assertEqual(book.without(0), Book(300, [(20, 400)]))
        self.assertEqual(book.without(1), Book(300, [(10, 250)]))
        self.assertEqual(Book(5, TWELVE).without(5).changes(), TWELVE[:5] + TWELVE[6:])
        self.assertEqual(book, doc_book())
        for value in odd_values() + [2, 3, HUGE]:
            self.fails(NoChange, "index", value, book.without, value)
        self.fails(NoChange, "index", 0, Book(1).without, 0)

    def test_joined(self):
        book = doc_book()
        other = Book(7, [(21, 8), (22, 9)])
        self.assertEqual(book.joined(other), Book(300, [(10, 250), (20, 400), (21, 8), (22, 9)]))
        self.assertEqual(book.joined(Book(7)), book)
        self.assertEqual(Book(7).joined(book), Book(7, book.changes()))
        self.assertEqual(Book(7).joined(Book(8)), Book(7))
        self.assertEqual([book, other], [doc_book(), Book(7, [(21, 8), (22, 9)])])
        for moment in (20, 19, 10, -5):
            with self.assertRaises(NotLater) as context:
                book.joined(Book(7, [(moment, 1), (moment + 1, 1)]))
            self.assertEqual(context.exception.index, 2)
        with self.assertRaises(NotLater) as context:
            book.joined(book)
        self.assertEqual(context.exception.index, 2)
        self.assertEqual(book, doc_book())

    def test_equal(self):
        for book in (Book(1), Book(300, []), doc_book(), Book(5, TWELVE)):
            other = Book(book[0], tuple(book.changes()))
            self.assertIs(book == other, True)
            self.assertIs(book != other, False)
        unlike = [Book(1), Book(2), Book(1, [(0, 1)]), Book(1, [(1, 1)]), Book(1, [(0, 2)]), Book(2, [(0, 1)]),
                  Book(1, [(0, 1), (1, 1)]), Book(1, [(0, 1), (2, 1)])]
        for index, book in enumerate(unlike):
            for place, other in enumerate(unlike):
                self.assertIs(book == other, index == place)
                self.assertIs(book != other, index != place)

    def test_equal_to_nothing_else(self):
        book = Book(1, [(0, 1)])
        others = odd_values() + [1, (1, ((0, 1),)), [1, 1], (1, 1), book.changes(), book.prices(),
                                 Line(book, (0, 0)), str(book)]
        for other in others:
            self.assertIs(book == other, False)
            self.assertIs(book != other, True)
            self.assertIs(other == book, False)

    def test_what_is_passed_stays_and_is_copied(self):
        changes = [(10, 250), (20, 400)]
        book = Book(300, changes)
        self.assertEqual(changes, [(10, 250), (20, 400)])
        changes.append((30, 1))
        changes[0] = (0, 0)
        self.assertEqual(book, doc_book())
        self.assertEqual([len(book), book.at(10), book[1]], [3, (0, 1), 250])

    def test_what_is_returned_is_new(self):
        book = doc_book()
        for ask in (book.changes, book.moments, book.prices):
            first = ask()
            second = ask()
            self.assertIsNot(first, second)
            first.clear()
            self.assertEqual(ask(), second)
        self.assertEqual(book, doc_book())

    def test_great_moments_and_prices(self):
        book = Book(HUGE, [(-HUGE, 0), (0, HUGE - 1), (HUGE, HUGE)])
        self.assertEqual([book.at(-HUGE - 1), book.at(-HUGE), book.at(-HUGE + 1)], [(0, 0), (0, 1), (1, 1)])
        self.assertEqual([book.at(HUGE - 1), book.at(HUGE), book.at(HUGE + 1)], [(2, 2), (2, 3), (3, 3)])
        self.assertEqual([book.first_at(HUGE), book.first_at(HUGE - 1)], [None, 0])
        self.assertEqual(book.without(1).joined(Book(0, [(HUGE + 1, 1)])).moments(), [-HUGE, HUGE, HUGE + 1])


if __name__ == "__main__":
    unittest.main()
