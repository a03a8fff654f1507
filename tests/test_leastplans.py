"""[52] Least plans, with what [3], [4], [8] and [12] say of them."""

import unittest
from itertools import product

from helpers import HUGE, Case, doc_book, good_orders, moved_plan, odd_values, way_of
from labeltill.books import Book
from labeltill.errors import NoOrder
from labeltill.leastplans import forced_by, least_plan
from labeltill.orders import follows
from labeltill.plans import is_plan
from test_orders import FALLING, RISING, STAYING
from test_plans import GAP, LABEL, TILL, some_plans


def every_plan(book, most):
    """All plans of a book whose moments are at most one."""
    rows = [list(row) for row in product(range(most + 1), repeat=len(book) - 1)
            if list(row) == sorted(row) and all(at >= own for at, own in zip(row, book.moments()))]
    return [(label, till) for label in rows for till in rows]


def places_of(order):
    """For each letter of an order the board and the index of the change that it stands for."""
    return [(0, one) if letter == "L" else (1, other) for letter, (one, other) in zip(order, way_of(order))]


def parted_by(book, order):
    """The bad cells with the two letters, elder and later, by which a good order parts them."""
    places = places_of(order)
    found = []
    for one, other in product(range(len(book)), repeat=2):
        if book[other] > book[one]:
            left = places.index((0, one)) if (0, one) in places else len(order)
            taken = places.index((1, other - 1)) if other > 0 else -1
            if left < taken:
                found.append((left, taken))
            else:
                found.append((places.index((1, other)), places.index((0, one - 1))))
    return found


def is_parted(label, till, gap, elder, later, by_label):
    """Whether a number that is left at one moment surely is ahead of one that is taken over at another one."""
    if by_label:
        return elder + label[1] + gap[1] < later + till[0]
    return elder + till[1] < later + label[0] + gap[0]


def forced_by_hand(book, label, till, gap, order, plan):
    places = places_of(order)
    moments = [plan[board][index] for board, index in places]
    found = []
    for at, (board, index) in enumerate(places):
        forcing = None
        if moments[at] != book.moments()[index]:
            same = [elder for elder in range(at) if places[elder][0] == board and moments[elder] == moments[at]]
            other = [elder for elder, later in parted_by(book, order) if later == at
                     and not is_parted(label, till, gap, moments[elder], moments[at] - 1, places[elder][0] == 0)]
            forcing = min(same + other)
        found.append(forcing)
    return found


def lessened(plan, board, index):
    sent = [list(plan[0]), list(plan[1])]
    sent[board][index] -= 1
    return tuple(sent)


class LeastPlansTest(Case):
    def test_of_the_document(self):
        book = doc_book()
        self.assertEqual(least_plan(book, LABEL, TILL, GAP, "TLLT"), ([12, 20], [10, 30]))
        self.assertEqual(forced_by(book, LABEL, TILL, GAP, "TLLT"), [None, 0, None, 2])

    def test_no_order(self):
        book = doc_book()
        for value in odd_values() + ["LTLT", "TTLL", "LLTT", "tllt", "TLL", "TLLTT", ["T", "L", "L", "T"], 5]:
            for call in (least_plan, forced_by):
                self.fails(NoOrder, "order", value, call, book, LABEL, TILL, GAP, value)
        for call in (least_plan, forced_by):
            self.fails(NoOrder, "order", "LT", call, Book(1), LABEL, TILL, GAP, "LT")

    def test_a_book_without_changes(self):
        plan = least_plan(Book(1), LABEL, TILL, GAP, "")
        self.assertEqual([plan, forced_by(Book(1), LABEL, TILL, GAP, "")], [([], []), []])
        self.assertIsNot(plan[0], plan[1])

    def test_the_least_of_all_plans(self):
        for book, label, till, gap, _ in some_plans(1, 25, 2):
            for order in good_orders(book):
                found = least_plan(book, label, till, gap, order)
                known = [plan for plan in every_plan(book, max([0] + found[0] + found[1]) + 2)
                         if follows(book, label, till, gap, plan, order)]
                self.assertIn(found, known)
                for plan in known:
                    self.assertTrue(all(least <= at for board in range(2)
                                        for least, at in zip(found[board], plan[board])))

    def test_no_moment_can_be_one_less(self):
        for book, label, till, gap, _ in some_plans(2, 60, 4):
            for order in good_orders(book):
                plan = least_plan(book, label, till, gap, order)
                self.assertIs(is_plan(book, plan), True)
                self.assertIs(follows(book, label, till, gap, plan, order), True)
                for board, index in places_of(order):
                    less = lessened(plan, board, index)
                    self.assertFalse(is_plan(book, less) and follows(book, label, till, gap, less, order))

    def test_forced_by(self):
        kinds = {None: 0, "same": 0, "other": 0}
        for book, label, till, gap, _ in some_plans(3, 80, 4):
            for order in good_orders(book):
                plan = least_plan(book, label, till, gap, order)
                found = forced_by(book, label, till, gap, order)
                self.assertEqual(found, forced_by_hand(book, label, till, gap, order, plan))
                for at, elder in enumerate(found):
                    kinds[elder if elder is None else "same" if order[elder] == order[at] else "other"] += 1
        self.assertTrue(min(kinds.values()) > 50)

    def test_the_least_of_several_that_force(self):
        # The till's second and third letter wait as long as its first one, which waits for the label.
        book = Book(1, [(0, 3), (1, 3), (2, 3)])
        self.assertEqual(least_plan(book, (0, 9), (0, 0), (0, 0), "LTLTLT"), ([0, 1, 2], [10, 10, 10]))
        self.assertEqual(forced_by(book, (0, 9), (0, 0), (0, 0), "LTLTLT"), [None, 0, None, 0, None, 0])
        self.assertEqual(forced_by(book, (0, 9), (0, 0), (0, 0), "LLLTTT"), [None, None, None, 0, 0, 0])
        # The second T waits for the first letter and for the one ahead, the last L for each T.
        book = Book(5, [(0, 6), (1, 6), (2, 4)])
        self.assertEqual(least_plan(book, (0, 9), (0, 5), (0, 0), "LTTTLL"), ([0, 1, 16], [10, 10, 10]))
        self.assertEqual(forced_by(book, (0, 9), (0, 5), (0, 0), "LTTTLL"), [None, 0, 0, 1, None, 1])

    def test_moments_of_their_own_are_not_forced(self):
        # What is parted by just the own moments is forced by nothing.
        book = Book(1, [(0, 0), (9, 5)])
        self.assertEqual(least_plan(book, (0, 3), (0, 0), (0, 5), "TLLT"), ([1, 9], [0, 18]))
        for most, known in ((3, [None, 0, None, 2]), (0, [None, 0, None, 2])):
            self.assertEqual(forced_by(book, (0, most), (0, 0), (0, 5), "TLLT"), known)
        self.assertEqual(forced_by(Book(1, [(0, 0)]), (1, 1), (0, 0), (0, 0), "TL"), [None, None])
        self.assertEqual(forced_by(Book(1, [(0, 0)]), (0, 1), (0, 0), (1, 1), "TL"), [None, None])
        self.assertEqual(forced_by(Book(1, [(0, 0)]), (0, 1), (0, 0), (0, 1), "TL"), [None, 0])
        self.assertEqual(forced_by(Book(1, [(0, 2)]), (0, 0), (1, 1), (0, 0), "LT"), [None, None])
        self.assertEqual(forced_by(Book(1, [(0, 2)]), (0, 0), (1, 1), (0, 1), "LT"), [None, 0])

    def test_eight_changes(self):
        for book, order in ((RISING, "LT" * 8), (RISING, "L" * 8 + "T" * 8), (FALLING, "TL" * 8),
                            (STAYING, "T" * 8 + "L" * 8)):
            plan = least_plan(book, LABEL, TILL, GAP, order)
            self.assertIs(follows(book, LABEL, TILL, GAP, plan, order), True)
            self.assertEqual(forced_by(book, LABEL, TILL, GAP, order),
                             forced_by_hand(book, LABEL, TILL, GAP, order, plan))
        self.assertEqual(least_plan(STAYING, LABEL, TILL, GAP, "TL" * 8), (STAYING.moments(), STAYING.moments()))

    def test_moved_and_scaled(self):
        for book, label, till, gap, _ in some_plans(4, 25, 3):
            for order in good_orders(book):
                plan = least_plan(book, label, till, gap, order)
                for by in (HUGE, -HUGE):
                    moved = book.moved(by).scaled(5)
                    self.assertEqual(least_plan(moved, label, till, gap, order), moved_plan(plan, by))
                    self.assertEqual(forced_by(moved, label, till, gap, order),
                                     forced_by(book, label, till, gap, order))

    def test_great_numbers(self):
        book = Book(HUGE, [(-HUGE, HUGE - 1), (HUGE, HUGE)])
        board = (0, HUGE)
        self.assertEqual(least_plan(book, board, board, board, "TLLT"), ([1, HUGE], [-HUGE, 3 * HUGE + 1]))
        self.assertEqual(forced_by(book, board, board, board, "TLLT"), [None, 0, None, 2])

    def test_what_is_returned_is_new(self):
        book = doc_book()
        for _ in range(2):
            plan = least_plan(book, LABEL, TILL, GAP, "TLLT")
            forced = forced_by(book, LABEL, TILL, GAP, "TLLT")
            self.assertEqual([plan, forced], [([12, 20], [10, 30]), [None, 0, None, 2]])
            self.assertEqual(least_plan(book, TILL, LABEL, GAP, "TLLT"), ([15, 20], [10, 27]))
            self.assertEqual(least_plan(book, LABEL, TILL, (5, 5), "TLLT"), ([10, 20], [10, 30]))
            plan[0].clear()
            plan[1].append(0)
            forced.reverse()
        self.assertEqual(book, doc_book())


if __name__ == "__main__":
    unittest.main()
