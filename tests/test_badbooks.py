"""[61] Bad books, and [9] the rules for which there are none, with what [3], [4] and [12] say of them."""

import unittest
from itertools import product
from random import Random

from helpers import HUGE, Case, doc_book, odd_values
from labeltill.badbooks import bad_book, is_bad_book, over_by
from labeltill.books import Book
from labeltill.charges import greatest_over, is_visit
from labeltill.lines import Line
from labeltill.rules import is_safe_rule, keeps_apart, least_apart, least_rule, lines_told, sent_by
from test_rules import BOARDS, GAP, book_apart, can_be_charged_over, some_settings


class BadBooksTest(Case):
    def check_bad_book(self, rule, boards, gap, apart):
        """Checks the answer by what it has to be, not by what the program accepts."""
        thing = bad_book(rule, boards, gap, apart)
        self.assertIs(thing.__class__, tuple)
        book, visit = thing
        self.assertIs(book.__class__, Book)
        self.assertTrue(len(book) <= 3)
        self.assertIs(keeps_apart(book, apart), True)
        label, till = lines_told(rule, book, boards)
        self.assertIs(is_visit(label, till, gap, visit), True)
        self.assertTrue(book[visit[1]] > book[visit[0]])
        self.assertIs(is_bad_book(rule, boards, gap, apart, thing), True)

    def test_of_the_document(self):
        self.assertEqual([over_by((7, 3), doc_book(), BOARDS, GAP), over_by((5, 3), doc_book(), BOARDS, GAP)], [0, 150])
        self.assertIs(is_bad_book((0, 0), BOARDS, GAP, 9, bad_book((0, 0), BOARDS, GAP, 9)), True)
        self.assertIsNone(bad_book((7, 3), BOARDS, GAP, 9))

    def test_over_by(self):
        random = Random(1)
        for boards, gap, apart in some_settings(1, 60, 2):
            book, rule = book_apart(random, 3, apart), (random.randint(0, 5), random.randint(0, 5))
            label, till = sent_by(rule, book)
            found = over_by(rule, book, boards, gap)
            self.assertEqual(found, greatest_over(Line(book, boards[0], label), Line(book, boards[1], till), gap, "till"))
            self.assertIs(found > 0, can_be_charged_over(lines_told(rule, book, boards), gap))
        self.assertEqual(over_by((0, 0), Book(7), BOARDS, GAP), 0)
        self.assertEqual(over_by((6, 3), Book(1, [(0, HUGE)]), BOARDS, GAP), HUGE - 1)
        self.assertEqual(over_by((7, 3), Book(1, [(0, HUGE)]), BOARDS, GAP), 0)

    def test_bad_books_by_each_inequality(self):
        # One is missed by just one: of a rise, of a fall, of a fall and a rise, of a rise and a fall.
        boards, gap = ((2, 9), (3, 7)), (1, 4)
        for rule, apart in (((10, 5), 90), ((11, 4), 90), ((11, 9), 8), ((15, 11), 8), ((0, 0), 1), ((11, 8), 7)):
            self.check_bad_book(rule, boards, gap, apart)
        for rule, apart in (((11, 5), 90), ((12, 9), 8), ((15, 12), 8), ((11, 8), 8)):
            self.assertIsNone(bad_book(rule, boards, gap, apart))

    def test_none_just_if_the_rule_is_safe(self):
        kinds = {True: 0, False: 0}
        for boards, gap, apart in some_settings(2, 40):
            for rule in product((0, 1, 2, 4, 6, 8), (0, 1, 2, 3, 5, 7)):
                safe = is_safe_rule(rule, boards, gap, apart)
                kinds[safe] += 1
                if safe:
                    self.assertIsNone(bad_book(rule, boards, gap, apart))
                else:
                    self.check_bad_book(rule, boards, gap, apart)
        self.assertTrue(min(kinds.values()) > 100)

    def test_no_book_is_bad_for_a_safe_rule(self):
        random = Random(3)
        for boards, gap, apart in some_settings(4, 60, 3):
            apart = least_apart(boards, gap) + random.choice([0, 0, 1, 3])
            up, down = least_rule(boards, gap, apart)
            rules = [(up, down)] + [(up + random.randint(0, 5), down + random.randint(0, 5)) for _ in range(3)]
            for rule in [rule for rule in rules if is_safe_rule(rule, boards, gap, apart)]:
                for _ in range(6):
                    book = book_apart(random, 8, apart)
                    self.assertIs(keeps_apart(book, apart), True)
                    self.assertEqual(over_by(rule, book, boards, gap), 0)

    def test_bad_books_of_any_value(self):
        rule, boards, gap, apart = (0, 0), ((0, 4), (0, 0)), (0, 3), 5
        book = Book(1, [(0, 2), (5, 1)])
        good = (0, 1, 3, 2)
        self.assertIs(is_bad_book(rule, boards, gap, apart, (book, good)), True)
        visits = [list(good), good[:3], good + (0,), (0, 1, 5, 0), (0, 1, 3, 4), (0, 1, 3, -1), (0, 1, -4, 3),
                  (1, 0, 0, 0), (0, 0, 3, 0), (0, 2, 3, 2), (0, 3, 3, 2), (3, 1, 3, 2), (-1, 1, 3, 2), (False, 1, 3, 2),
                  (0, True, 3, 2), (0, 1, True, 0), (0, 1, 3, True), (0, 1, "3", 2), (0, 1, None, 2), "0132"]
        for visit in odd_values() + visits:
            self.assertIs(is_bad_book(rule, boards, gap, apart, (book, visit)), False)
        books = [[(0, 2), (5, 1)], (1, [(0, 2), (5, 1)]), Line(book, (0, 0)), Book(1), Book(2, [(0, 1), (5, 2)]),
                 Book(1, [(0, 2), (4, 1)]), Book(1, [(9, 2), (14, 1)]), book.prices(), book.changes()]
        for other in odd_values() + books:
            self.assertIs(is_bad_book(rule, boards, gap, apart, (other, good)), False)
        for thing in odd_values() + [[book, good], (book,), (good,), (good, book), (book, good, None), (book, *good),
                                     book, good, {0: book, 1: good}, ((book, good),)]:
            self.assertIs(is_bad_book(rule, boards, gap, apart, thing), False)

    def test_the_same_for_other_rules(self):
        book, visit = Book(1, [(0, 2), (5, 1)]), (0, 1, 3, 2)
        boards = (0, 4), (0, 0)
        for rule, gap, apart, known in (((0, 0), (0, 3), 5, True), ((5, 0), (0, 3), 5, True), ((6, 0), (0, 3), 5, False),
                                        ((0, 0), (0, 1), 5, False), ((0, 0), (0, 3), 6, False), ((0, 9), (0, 3), 1, True),
                                        ((0, 0), (3, 3), 5, False), ((0, 0), (2, 2), 1, True)):
            self.assertIs(is_bad_book(rule, boards, gap, apart, (book, visit)), known)
        self.assertIs(is_bad_book((0, 0), boards[::-1], (0, 3), 5, (book, visit)), False)

    def test_books_of_up_to_twelve_changes(self):
        rule, boards, gap = (0, 0), ((0, 4), (0, 0)), (0, 0)
        for many, known in ((1, True), (2, True), (11, True), (12, True), (13, False)):
            book = Book(1, [(5 * index, index + 2) for index in range(many)])
            self.assertIs(is_bad_book(rule, boards, gap, 5, (book, (many - 1, many, 5 * many - 3, 0))), known)
            self.assertIs(is_bad_book(rule, boards, gap, 6, (book, (many - 1, many, 5 * many - 3, 0))), many == 1)

    def test_all_things_of_a_small_book(self):
        rule, boards, gap, apart = (1, 0), ((0, 2), (1, 1)), (0, 1), 2
        for book in (Book(1, [(0, 2)]), Book(2, [(0, 1), (2, 3)]), Book(2, [(0, 1), (1, 3)]), Book(1, [(0, 1)])):
            label, till = lines_told(rule, book, boards)
            for visit in product(range(3), range(3), range(-2, 7), range(-1, 3)):
                known = (book.moments() != [0, 1] and is_visit(label, till, gap, visit)
                         and book[visit[1]] > book[visit[0]])
                self.assertIs(is_bad_book(rule, boards, gap, apart, (book, visit)), known)

    def test_moved_and_scaled(self):
        random = Random(5)
        for boards, gap, apart in some_settings(6, 40, 2):
            book, rule = book_apart(random, 4, apart), (random.randint(0, 3), random.randint(0, 3))
            moved = book.moved(HUGE).scaled(7)
            self.assertEqual(over_by(rule, moved, boards, gap), 7 * over_by(rule, book, boards, gap))
            found = bad_book((0, 0), boards, gap, apart)
            if found is not None:
                known, (number, other, moment, wait) = found
                for by in (HUGE, -HUGE):
                    thing = known.moved(by).scaled(3), (number, other, moment + by, wait)
                    self.assertIs(is_bad_book((0, 0), boards, gap, apart, thing), True)

    def test_great_numbers(self):
        boards, gap = ((0, HUGE), (0, HUGE)), (0, HUGE)
        for rule, apart in (((2 * HUGE, HUGE + 1), HUGE), ((2 * HUGE + 1, HUGE), 9 * HUGE),
                            ((2 * HUGE + 1, HUGE + 1), 2 * HUGE), ((9 * HUGE, 9 * HUGE), 1)):
            self.check_bad_book(rule, boards, gap, apart)
        self.assertIsNone(bad_book((2 * HUGE + 1, HUGE + 1), boards, gap, 2 * HUGE + 1))
        book = Book(HUGE, [(-HUGE, 0), (HUGE, HUGE - 1)])
        self.assertEqual(over_by((2 * HUGE, HUGE + 1), book, boards, gap), HUGE - 1)
        self.assertEqual(over_by((2 * HUGE + 1, HUGE + 1), book, boards, gap), 0)

    def test_asked_by_turns(self):
        book, swapped = doc_book(), BOARDS[::-1]
        for _ in range(3):
            self.assertEqual([over_by((7, 3), book, BOARDS, GAP), over_by((5, 3), book, BOARDS, GAP),
                              over_by((5, 3), book, swapped, GAP), over_by((6, 4), book, swapped, GAP),
                              over_by((5, 3), book, BOARDS, (0, 1))], [0, 150, 150, 0, 0])
            found = bad_book((0, 0), BOARDS, GAP, 9)
            self.assertEqual(found, bad_book((0, 0), BOARDS, GAP, 9))
            self.assertIs(is_bad_book((0, 0), BOARDS, GAP, 9, found), True)
            self.assertIsNone(bad_book((7, 3), BOARDS, GAP, 9))
            self.assertIs(is_bad_book((7, 3), BOARDS, GAP, 9, found), False)
        self.assertEqual(book, doc_book())


if __name__ == "__main__":
    unittest.main()
