"""[50] Plans, with what [3], [4] and [12] say of them."""

import unittest
from itertools import product
from random import Random

from helpers import (HUGE, Case, doc_book, moments_around, moved_plan, numbers_shown, odd_values, some_board, some_book,
                     some_plan)
from labeltill.books import Book
from labeltill.errors import LabelError
from labeltill.lines import Line
from labeltill.plans import bad_cells, can_meet, harm, is_plan, is_safe, lines_by

LABEL, TILL, GAP = (0, 4), (0, 1), (0, 5)
AT_ONCE = ([10, 20], [10, 20])


def some_plans(seed, many, most=2):
    """Tuples of a book, the boards of a label and a till, a gap, and a plan."""
    random = Random(seed)
    found = []
    for _ in range(many):
        book = some_book(random, most)
        boards = [some_board(random, 2) for _ in range(3)]
        found.append((book, *boards, some_plan(random, book)))
    return found


def meetings(label, till, gap):
    """For each cell of two lines the moments (looked, paid) at which it can be met, by trying all courses."""
    found = {}
    for looked in moments_around(label, till):
        for paid in range(looked + gap[0], looked + gap[1] + 1):
            for cell in product(numbers_shown(label, looked), numbers_shown(till, paid)):
                found.setdefault(cell, []).append((looked, paid))
    return found


class PlansTest(Case):
    def test_plans_of_any_value(self):
        book = doc_book()
        good = [12, 20], [10, 30]
        self.assertIs(is_plan(book, good), True)
        self.assertIs(is_plan(book, ([10, 20], [10, 20])), True)
        self.assertIs(is_plan(book, ([20, 20], [10 ** 999, 10 ** 999])), True)
        for thing in odd_values() + [
                list(good), (good,), good[:1], good + ([10, 20],), (*good, None), [12, 20], (12, 20), (12, 20, 10, 30),
                ([12], [10, 30]), ([12, 20], [10]), ([12, 20, 30], [10, 30]), ([12, 20], [10, 30, 30]), ([], []),
                ((12, 20), [10, 30]), ([12, 20], (10, 30)), ((12, 20), (10, 30)), {0: good[0], 1: good[1]},
                ([9, 20], [10, 30]), ([12, 19], [10, 30]), ([12, 20], [9, 30]), ([12, 20], [10, 19]),
                ([21, 20], [10, 30]), ([12, 20], [31, 30]), (["12", 20], [10, 30]), ([12, 20], [10, None]),
                ([12, [20]], [10, 30]), ("12", [10, 30]), (12, 20), ({12: 0, 20: 0}, [10, 30]), ({12, 20}, [10, 30]),
                ([-HUGE, 20], [10, 30])]:
            self.assertIs(is_plan(book, thing), False)
        for place, index in product(range(2), range(2)):
            for odd in odd_values():
                sent = [list(good[0]), list(good[1])]
                sent[place][index] = odd
                self.assertIs(is_plan(book, tuple(sent)), False)

    def test_truths_are_no_moments(self):
        book = Book(5, [(0, 6)])
        self.assertIs(is_plan(book, ([1], [0])), True)
        for thing in (([True], [0]), ([1], [False]), ([1], [True]), ([False], [0])):
            self.assertIs(is_plan(book, thing), False)

    def test_plans_of_a_book_without_changes(self):
        self.assertIs(is_plan(Book(5), ([], [])), True)
        for thing in ((), ([],), ([], [], []), ((), ()), [[], []], ([0], []), ([], [0]), ([[]], []), ("", ""), None):
            self.assertIs(is_plan(Book(5), thing), False)

    def test_plans_are_what_lines_have(self):
        book = Book(1, [(0, 2), (2, 0)])
        for moments in product(range(-1, 4), repeat=2):
            try:
                Line(book, (0, 0), list(moments))
                known = True
            except LabelError:
                known = False
            self.assertIs(is_plan(book, (list(moments), [0, 2])), known)
            self.assertIs(is_plan(book, ([0, 2], list(moments))), known)

    def test_lines_by(self):
        self.assertEqual(lines_by(doc_book(), LABEL, TILL, ([12, 20], [10, 30])),
                         (Line(doc_book(), LABEL, [12, 20]), Line(doc_book(), TILL, [10, 30])))
        for book, label, till, _, plan in some_plans(1, 30):
            lines = lines_by(book, label, till, plan)
            self.assertIs(lines.__class__, tuple)
            self.assertEqual(lines, (Line(book, label, plan[0]), Line(book, till, plan[1])))

    def test_bad_cells(self):
        self.assertEqual(bad_cells(doc_book()), [(0, 2), (1, 0), (1, 2)])
        self.assertEqual(bad_cells(Book(0)), [])
        self.assertEqual(bad_cells(Book(1, [(0, 2), (5, HUGE)])), [(0, 1), (0, 2), (1, 2)])
        self.assertEqual(bad_cells(Book(HUGE, [(0, 2), (5, 1)])), [(1, 0), (2, 0), (2, 1)])
        self.assertEqual(bad_cells(Book(3, [(0, 3), (5, 3)])), [])
        self.assertEqual(bad_cells(Book(3, [(0, 3), (5, 4)])), [(0, 2), (1, 2)])
        eight = Book(0, [(moment, (moment * 5) % 9) for moment in range(1, 9)])
        for book in [eight] + [row[0] for row in some_plans(2, 40, 4)]:
            many = range(len(book))
            self.assertEqual(bad_cells(book), [cell for cell in product(many, many) if book[cell[1]] > book[cell[0]]])

    def test_of_the_document(self):
        book = doc_book()
        self.assertEqual(harm(book, LABEL, TILL, GAP, AT_ONCE), ((1, 0), (10, 10)))
        self.assertIs(can_meet(LABEL, TILL, GAP, AT_ONCE, (0, 2)), False)
        self.assertIs(is_safe(book, LABEL, TILL, GAP, AT_ONCE), False)
        self.assertIs(is_safe(book, LABEL, TILL, GAP, ([12, 20], [10, 30])), True)
        self.assertIsNone(harm(book, LABEL, TILL, GAP, ([12, 20], [10, 30])))

    def test_meetings_by_all_courses(self):
        unsafe = 0
        for book, label, till, gap, plan in some_plans(3, 90):
            known = meetings(*lines_by(book, label, till, plan), gap)
            many = range(len(book))
            for cell in product(many, many):
                self.assertIs(can_meet(label, till, gap, plan, cell), cell in known)
            bad = [cell for cell in product(many, many) if book[cell[1]] > book[cell[0]] and cell in known]
            self.assertIs(is_safe(book, label, till, gap, plan), not bad)
            self.assertEqual(harm(book, label, till, gap, plan), (bad[0], min(known[bad[0]])) if bad else None)
            unsafe += len(bad) > 0
        self.assertTrue(20 < unsafe < 80)

    def test_a_cell_is_met_at_just_one_moment_or_missed_by_one(self):
        # The label shows the number 0 up to 14 and the gap leads to 19 at most.
        book = Book(300, [(10, 400)])
        for sent, known in ((19, ((0, 1), (14, 19))), (20, None), (18, ((0, 1), (13, 18)))):
            self.assertEqual(harm(book, LABEL, TILL, GAP, ([10], [sent])), known)
        # The till shows the number 0 up to 11, and the gap leads from the label's 8 at least by 3.
        book = Book(400, [(7, 300)])
        for sent, known in ((8, ((1, 0), (8, 11))), (9, None), (7, ((1, 0), (7, 10)))):
            self.assertEqual(harm(book, (0, 4), (0, 1), (3, 5), ([sent], [10])), known)

    def test_the_least_moment_of_paying_is_behind_the_least_gap(self):
        book = Book(1, [(0, 0)])
        self.assertEqual(harm(book, (0, 0), (9, 9), (2, 4), ([0], [0])), ((1, 0), (0, 2)))
        book = Book(1, [(0, 2)])
        self.assertEqual(harm(book, (9, 9), (3, 3), (1, 2), ([0], [0])), ((0, 1), (1, 3)))
        self.assertEqual(harm(book, (9, 9), (3, 3), (2, 2), ([0], [0])), ((0, 1), (1, 3)))

    def test_moved(self):
        for book, label, till, gap, plan in some_plans(4, 40):
            for by in (HUGE, -HUGE, 1):
                moved = moved_plan(plan, by)
                self.assertIs(is_plan(book.moved(by), moved), True)
                known = harm(book, label, till, gap, plan)
                if known is not None:
                    known = known[0], (known[1][0] + by, known[1][1] + by)
                self.assertEqual(harm(book.moved(by), label, till, gap, moved), known)
                self.assertEqual(bad_cells(book.moved(by)), bad_cells(book))
                self.assertEqual(harm(book.scaled(7), label, till, gap, plan), harm(book, label, till, gap, plan))

    def test_great_numbers(self):
        book = Book(HUGE, [(-HUGE, HUGE - 1), (HUGE, HUGE)])
        plan = [-HUGE, HUGE], [-HUGE, HUGE]
        self.assertEqual(bad_cells(book), [(1, 0), (1, 2)])
        self.assertEqual(harm(book, (HUGE, HUGE), (0, HUGE), (0, HUGE), plan), ((1, 0), (0, 0)))
        self.assertEqual(harm(book, (HUGE, HUGE), (0, 0), (0, HUGE), plan), ((1, 2), (0, HUGE)))
        late = [1, HUGE], [-HUGE, 3 * HUGE + 1]
        self.assertIsNone(harm(book, (0, HUGE), (0, HUGE), (0, HUGE), late))
        self.assertIs(can_meet((0, HUGE), (0, HUGE), (0, HUGE), late, (1, 1)), True)
        self.assertEqual(harm(book, (0, HUGE), (0, HUGE), (0, HUGE), ([0, HUGE], late[1])), ((1, 0), (0, 0)))
        self.assertEqual(harm(book, (0, HUGE), (0, HUGE), (0, HUGE), (late[0], [-HUGE, 3 * HUGE])),
                         ((1, 2), (2 * HUGE, 3 * HUGE)))

    def test_nothing_is_changed(self):
        book, plan = doc_book(), ([10, 20], [10, 20])
        for _ in range(2):
            lines = lines_by(book, LABEL, TILL, plan)
            self.assertEqual(harm(book, LABEL, TILL, GAP, plan), ((1, 0), (10, 10)))
            bad_cells(book).clear()
            self.assertEqual(bad_cells(book), [(0, 2), (1, 0), (1, 2)])
            self.assertIsNone(harm(book, LABEL, TILL, GAP, ([12, 20], [10, 30])))
            self.assertIs(can_meet((0, 0), TILL, GAP, plan, (0, 1)), True)
            self.assertIs(can_meet((0, 0), TILL, (0, 0), ([10, 20], [11, 20]), (0, 1)), False)
            self.assertIs(is_plan(book, plan), True)
        self.assertEqual([book, plan], [doc_book(), ([10, 20], [10, 20])])
        plan[0].append(99)
        plan[1][0] = 15
        self.assertEqual(lines, lines_by(book, LABEL, TILL, ([10, 20], [10, 20])))


if __name__ == "__main__":
    unittest.main()
