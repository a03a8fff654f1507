"""[51] Orders, and [8] which plans follow them, with what [3], [4] and [12] say of them."""

import unittest
from random import Random

from helpers import HUGE, Case, doc_book, good_orders, moved_plan, odd_values, some_book, way_of
from labeltill.books import Book
from labeltill.errors import NoIndex, NoOrder
from labeltill.leastplans import least_plan
from labeltill.orders import (cells_of, count_orders, follows, is_good, is_order, order_at, order_followed, order_index,
                              plain_order)
from labeltill.plans import is_safe, lines_by
from test_plans import GAP, LABEL, TILL, some_plans

RISING = Book(0, [(moment, moment) for moment in range(1, 9)])
FALLING = Book(9, [(moment, 9 - moment) for moment in range(1, 9)])
STAYING = Book(5, [(moment, 5) for moment in range(1, 9)])


def small_books(seed, many, most=4):
    random = Random(seed)
    return [Book(3), doc_book()] + [some_book(random, most) for _ in range(many)]


def parts_so(lines, gap, order, cell):
    """Whether the windows of two lines part a bad cell surely as an order does, straight from the definition."""
    label, till = lines
    one, other = cell
    # The numbers of both boards when the label leaves the one, and when the till leaves the other.
    for place, (number, at_till) in enumerate(way_of(order)):
        if order[place:place + 1] == "L" and number == one and at_till < other:
            return label.window(one)[1] + gap[1] < till.window(other)[0]
        if order[place:place + 1] == "T" and at_till == other and number < one:
            return till.window(other)[1] < label.window(one)[0] + gap[0]
    raise AssertionError("the order does not part the cell")


def follows_by_hand(book, label, till, gap, plan, order):
    many = range(len(book))
    bad = [(one, other) for one in many for other in many if book[other] > book[one]]
    return all(parts_so(lines_by(book, label, till, plan), gap, order, cell) for cell in bad)


class OrdersTest(Case):
    def test_of_the_document(self):
        book = doc_book()
        self.assertEqual([plain_order(book), count_orders(book), order_at(book, 0)], ["TLLT", 1, "TLLT"])
        self.assertEqual(cells_of("TLLT"), [(0, 0), (0, 1), (1, 1), (2, 1), (2, 2)])
        self.assertEqual(order_followed(book, LABEL, TILL, GAP, ([12, 20], [10, 30])), "TLLT")
        self.assertIsNone(order_followed(book, LABEL, TILL, GAP, ([10, 20], [10, 20])))

    def test_orders_of_any_value(self):
        book = doc_book()
        for order in ("LLTT", "LTLT", "LTTL", "TLLT", "TLTL", "TTLL"):
            self.assertIs(is_order(book, order), True)
            self.assertIs(is_good(book, order), order == "TLLT")
        for thing in odd_values() + ["tllt", "TLLt", "LT", "TLL", "TLLTT", "TLLTLT", "LLLT", "TTTL", "LLLL", "TXLT",
                                     "TLLT ", " TLLT", "TLLT\n", "TL LT", ["T", "L", "L", "T"], ("T", "L", "L", "T"),
                                     ["TLLT"], ("TLLT",), b"TLLT", {"T": 1, "L": 2}, 1221, "LT" * 2000]:
            self.assertIs(is_order(book, thing), False)
            self.assertIs(is_good(book, thing), False)

    def test_the_empty_order(self):
        book = Book(7)
        self.assertIs(is_order(book, ""), True)
        self.assertIs(is_good(book, ""), True)
        self.assertIs(is_order(doc_book(), ""), False)
        for thing in ("LT", "TL", " ", [], (), b"", None, False, 0):
            self.assertIs(is_order(book, thing), False)
            self.assertIs(is_good(book, thing), False)
        self.assertEqual([plain_order(book), count_orders(book), order_at(book, 0), order_index(book, "")],
                         ["", 1, "", 0])
        self.assertEqual(cells_of(""), [(0, 0)])
        self.assertIs(follows(book, LABEL, TILL, GAP, ([], []), ""), True)
        self.assertEqual(order_followed(book, LABEL, TILL, GAP, ([], [])), "")
        for index in (1, -1):
            self.fails(NoIndex, "index", index, order_at, book, index)

    def test_cells_of(self):
        self.assertEqual(cells_of("LT"), [(0, 0), (1, 0), (1, 1)])
        for book in small_books(1, 10):
            for index in range(count_orders(book)):
                order = order_at(book, index)
                self.assertEqual(cells_of(order), way_of(order))

    def test_plain_order(self):
        self.assertEqual(plain_order(Book(1, [(0, 2), (1, 2), (2, 1), (3, 5)])), "LTTLTLLT")
        for book in small_books(2, 60) + [RISING, FALLING, STAYING]:
            order = plain_order(book)
            self.assertIs(is_good(book, order), True)
            pairs = list(zip(book.prices(), book.prices()[1:]))
            self.assertEqual([order[2 * index:2 * index + 2] for index in range(len(pairs))],
                             ["LT" if newer > elder else "TL" for elder, newer in pairs])

    def test_all_good_orders(self):
        several = 0
        for book in small_books(3, 60):
            known = good_orders(book)
            many = len(known)
            several += many > 5
            self.assertEqual(count_orders(book), many)
            self.assertEqual([order_at(book, index) for index in range(many)], known)
            self.assertEqual([order_index(book, order) for order in known], list(range(many)))
            for index in (many, many + 1, -1, -many, HUGE, -HUGE, 10 ** 999):
                self.fails(NoIndex, "index", index, order_at, book, index)
        self.assertTrue(several > 10)

    def test_no_index(self):
        for value in odd_values() + ["TLLT", 1, [0]]:
            self.fails(NoIndex, "index", value, order_at, doc_book(), value)
        same = Book(1, [(0, 1)])
        self.assertEqual([order_at(same, 0), order_at(same, 1)], ["LT", "TL"])
        for truth in (True, False):
            self.fails(NoIndex, "index", truth, order_at, same, truth)

    def test_no_order(self):
        book = doc_book()
        plan = [12, 20], [10, 30]
        for value in odd_values() + ["LTLT", "TTLL", "LLTT", "tllt", "TLL", "TLLTT", ["T", "L", "L", "T"], 5]:
            self.fails(NoOrder, "order", value, order_index, book, value)
            self.fails(NoOrder, "order", value, follows, book, LABEL, TILL, GAP, plan, value)
        for known in small_books(4, 10):
            good = good_orders(known)
            for order in good_orders(Book(0, [(moment, 0) for moment in known.moments()])):
                if order not in good:
                    self.fails(NoOrder, "order", order, order_index, known, order)

    def test_eight_changes(self):
        # The ways that never pass to one side of the middle are counted by Catalan's numbers.
        self.assertEqual([count_orders(book) for book in (RISING, FALLING, STAYING)], [1430, 1430, 12870])
        self.assertEqual([order_at(book, 0) for book in (RISING, FALLING, STAYING)],
                         ["LLLLLLLLTTTTTTTT", "TLTLTLTLTLTLTLTL", "LLLLLLLLTTTTTTTT"])
        self.assertEqual([order_at(RISING, 1429), order_at(FALLING, 1429), order_at(STAYING, 12869)],
                         ["LTLTLTLTLTLTLTLT", "TTTTTTTTLLLLLLLL", "TTTTTTTTLLLLLLLL"])
        for book, index in ((RISING, 777), (FALLING, 1001), (STAYING, 6434)):
            self.assertEqual(order_index(book, order_at(book, index)), index)
            self.assertIs(is_good(book, order_at(book, index)), True)
        eight = Book(4, [(moment, (moment * 7) % 9) for moment in range(8)])
        self.assertEqual([order_at(eight, index) for index in range(count_orders(eight))], good_orders(eight))

    def test_follows_at_just_one_moment(self):
        # TLLT: the till leaves 0 ahead of the label's taking over 1: 10 + 1 < 12 + 0 + 0. The label leaves 1 ahead of
        # the till's taking over 2, as 20 + 4 + 5 < 30 + 0.
        book = doc_book()
        for plan, known in ((([12, 20], [10, 30]), True), (([11, 20], [10, 30]), False), (([12, 20], [11, 30]), False),
                            (([12, 21], [10, 30]), False), (([12, 20], [10, 29]), False), (([13, 20], [11, 31]), True),
                            (([12, 21], [10, 31]), True)):
            self.assertIs(follows(book, LABEL, TILL, GAP, plan, "TLLT"), known)
            self.assertIs(is_safe(book, LABEL, TILL, GAP, plan), known)
        # By a least gap of 2 the label may be told by so much earlier, by a greatest one of 6 the till must be later.
        for plan, known in ((([10, 20], [10, 31]), True), (([10, 20], [11, 31]), False), (([10, 20], [10, 30]), False)):
            self.assertIs(follows(book, LABEL, TILL, (2, 6), plan, "TLLT"), known)

    def test_follows_by_the_definition(self):
        kept = 0
        for book, label, till, gap, plan in some_plans(5, 60, 3):
            for order in good_orders(book):
                known = follows_by_hand(book, label, till, gap, plan, order)
                self.assertIs(follows(book, label, till, gap, plan, order), known)
                kept += known
        self.assertTrue(kept > 20)

    def test_order_followed(self):
        for book, label, till, gap, plan in some_plans(6, 200, 3):
            orders = good_orders(book)
            known = [order for order in orders if follows_by_hand(book, label, till, gap, plan, order)]
            self.assertIs(is_safe(book, label, till, gap, plan), known != [])
            self.assertEqual(order_followed(book, label, till, gap, plan), known[0] if known else None)

    def test_least_plans_follow_their_orders(self):
        for book, label, till, gap, _ in some_plans(7, 25, 4):
            for order in good_orders(book):
                plan = least_plan(book, label, till, gap, order)
                self.assertIs(is_safe(book, label, till, gap, plan), True)
                known = [other for other in good_orders(book) if follows(book, label, till, gap, plan, other)]
                self.assertIn(order, known)
                self.assertEqual(order_followed(book, label, till, gap, plan), known[0])

    def test_order_followed_of_eight_changes(self):
        for book in (RISING, FALLING, Book(4, [(moment, (moment * 7) % 9) for moment in range(8)])):
            for index in (0, count_orders(book) // 2, count_orders(book) - 1):
                order = order_at(book, index)
                plan = least_plan(book, LABEL, TILL, GAP, order)
                found = order_followed(book, LABEL, TILL, GAP, plan)
                self.assertIs(follows(book, LABEL, TILL, GAP, plan, found), True)
                self.assertTrue(found <= order)
        at_once = STAYING.moments(), STAYING.moments()
        self.assertEqual(order_followed(STAYING, LABEL, TILL, GAP, at_once), "LLLLLLLLTTTTTTTT")
        self.assertIsNone(order_followed(RISING, LABEL, TILL, GAP, (RISING.moments(), RISING.moments())))

    def test_moved_and_scaled(self):
        for book, label, till, gap, plan in some_plans(8, 30, 3):
            for by in (HUGE, -HUGE):
                moved = book.moved(by)
                self.assertEqual(count_orders(moved), count_orders(book))
                self.assertEqual(plain_order(moved.scaled(7)), plain_order(book))
                self.assertEqual(order_followed(moved, label, till, gap, moved_plan(plan, by)),
                                 order_followed(book, label, till, gap, plan))
                for order in good_orders(book):
                    self.assertEqual(order_index(moved.scaled(3), order), order_index(book, order))
                    self.assertEqual(follows(moved, label, till, gap, moved_plan(plan, by), order),
                                     follows(book, label, till, gap, plan, order))

    def test_great_numbers(self):
        book = Book(HUGE, [(-HUGE, HUGE - 1), (HUGE, HUGE)])
        board, gap = (0, HUGE), (0, HUGE)
        self.assertIs(follows(book, board, board, gap, ([1, HUGE], [-HUGE, 3 * HUGE + 1]), "TLLT"), True)
        self.assertIs(follows(book, board, board, gap, ([0, HUGE], [-HUGE, 3 * HUGE + 1]), "TLLT"), False)
        self.assertIs(follows(book, board, board, gap, ([1, HUGE], [-HUGE, 3 * HUGE]), "TLLT"), False)
        self.assertEqual(order_followed(book, board, board, gap, ([1, HUGE], [-HUGE, 3 * HUGE + 1])), "TLLT")

    def test_asked_by_turns(self):
        rising, falling = Book(1, [(0, 2)]), Book(2, [(0, 1)])
        plan = [0], [0]
        for _ in range(3):
            self.assertEqual([order_at(rising, 0), order_at(falling, 0)], ["LT", "TL"])
            self.assertEqual([plain_order(rising), plain_order(falling)], ["LT", "TL"])
            self.assertEqual([order_followed(rising, (0, 0), (0, 0), (0, 0), plan),
                              order_followed(rising, (0, 0), (1, 1), (0, 0), plan),
                              order_followed(rising, (0, 0), (1, 1), (0, 1), plan),
                              order_followed(falling, (1, 1), (0, 0), (0, 0), plan)], [None, "LT", None, "TL"])
            cells = cells_of("LT")
            self.assertEqual(cells, [(0, 0), (1, 0), (1, 1)])
            cells.clear()
        self.assertEqual([rising, falling, plan], [Book(1, [(0, 2)]), Book(2, [(0, 1)]), ([0], [0])])


if __name__ == "__main__":
    unittest.main()
