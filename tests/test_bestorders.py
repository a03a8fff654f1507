"""[53] Best orders, with what [3], [4] and [12] say of them."""

import unittest
from random import Random

from helpers import HUGE, Case, doc_book, good_orders, moved_plan, some_board
from labeltill.bestorders import ending, first_to_end, least_waiting, waiting
from labeltill.books import Book
from labeltill.leastplans import least_plan
from test_plans import GAP, LABEL, TILL, some_plans

TOGETHER = Book(0, [(2, 1), (4, 0), (7, 2)])


def some_books_of_five(seed, many):
    random = Random(seed)
    found = []
    for _ in range(many):
        moments = sorted(random.sample(range(12), random.randint(0, 5)))
        book = Book(random.randint(0, 2), [(moment, random.randint(0, 2)) for moment in moments])
        found.append((book, *[some_board(random, 4) for _ in range(3)]))
    return found


def costs_by_hand(book, label, till, gap):
    """For each good order its ending and its waiting, those of its least plan."""
    found = {}
    for order in good_orders(book):
        plan = least_plan(book, label, till, gap, order)
        moments = sorted(plan[0] + plan[1])
        own = sorted(book.moments() * 2)
        found[order] = moments[-1:], sum(at - least for at, least in zip(moments, own))
    return found


class BestOrdersTest(Case):
    def test_of_the_document(self):
        book = doc_book()
        plan = least_plan(book, LABEL, TILL, GAP, "TLLT")
        self.assertEqual([ending(plan), waiting(book, plan), first_to_end(book, LABEL, TILL, GAP)], [30, 12, "TLLT"])
        self.assertEqual(least_waiting(book, LABEL, TILL, GAP), "TLLT")

    def test_ending(self):
        self.assertIsNone(ending(([], [])))
        self.assertEqual([ending(([12, 20], [10, 30])), ending(([12, 40], [10, 30])), ending(([-5], [-7]))], [30, 40, -5])
        self.assertEqual(ending(([0], [-1])), 0)
        for _, _, _, _, plan in some_plans(1, 20, 3):
            self.assertEqual(ending(plan), max(plan[0] + plan[1], default=None))

    def test_waiting(self):
        self.assertEqual(waiting(Book(1), ([], [])), 0)
        self.assertEqual(waiting(doc_book(), ([10, 20], [10, 20])), 0)
        for book, _, _, _, plan in some_plans(2, 20, 3):
            own = book.moments()
            self.assertEqual(waiting(book, plan), sum(at - own[index] for sent in plan for index, at in enumerate(sent)))

    def test_a_book_without_changes(self):
        self.assertEqual([first_to_end(Book(1), LABEL, TILL, GAP), least_waiting(Book(1), LABEL, TILL, GAP)], ["", ""])

    def test_all_good_orders(self):
        differ = several = 0
        for book, label, till, gap in some_books_of_five(3, 150):
            known = costs_by_hand(book, label, till, gap)
            endings = [cost[0] for cost in known.values()]
            waits = [cost[1] for cost in known.values()]
            first = [order for order in known if known[order][0] == min(endings)]
            least = [order for order in known if known[order][1] == min(waits)]
            self.assertEqual(first_to_end(book, label, till, gap), min(first))
            self.assertEqual(least_waiting(book, label, till, gap), min(least))
            several += len(first) > 1 and len(least) > 1 and len(known) > len(first)
            differ += min(first) != min(least)
        self.assertTrue(several > 10 and differ > 5)

    def test_several_that_are_equal(self):
        # Nothing is bad, all orders end at once: the least of them.
        same = Book(1, [(moment, 1) for moment in range(5)])
        self.assertEqual([first_to_end(same, LABEL, TILL, GAP), least_waiting(same, LABEL, TILL, GAP)],
                         ["LLLLLTTTTT"] * 2)
        # Both orders end at 9, the second one waits less.
        self.assertEqual(costs_by_hand(TOGETHER, (3, 4), (3, 4), (0, 0)), {"LLLTTT": ([9], 14), "LTTLLT": ([9], 6)})
        found = [call(TOGETHER, (3, 4), (3, 4), (0, 0)) for call in (first_to_end, least_waiting)]
        self.assertEqual(found, ["LLLTTT", "LTTLLT"])

    def test_moved_and_scaled(self):
        for book, label, till, gap in some_books_of_five(4, 15):
            for by in (HUGE, -HUGE):
                moved = book.moved(by).scaled(9)
                self.assertEqual(first_to_end(moved, label, till, gap), first_to_end(book, label, till, gap))
                self.assertEqual(least_waiting(moved, label, till, gap), least_waiting(book, label, till, gap))
        plan = [12, 20], [10, 30]
        self.assertEqual(ending(moved_plan(plan, HUGE)), HUGE + 30)
        self.assertEqual(waiting(doc_book().moved(HUGE), moved_plan(plan, HUGE)), 12)

    def test_great_numbers(self):
        book = Book(HUGE, [(-HUGE, HUGE - 1), (HUGE, HUGE)])
        board = (0, HUGE)
        plan = least_plan(book, board, board, board, "TLLT")
        self.assertEqual([ending(plan), waiting(book, plan)], [3 * HUGE + 1, 3 * HUGE + 2])
        self.assertEqual([first_to_end(book, board, board, board), least_waiting(book, board, board, board)],
                         ["TLLT", "TLLT"])

    def test_asked_by_turns(self):
        plan, board = ([12, 20], [10, 30]), (3, 4)
        for _ in range(3):
            self.assertEqual([first_to_end(TOGETHER, board, board, (0, 0)), first_to_end(doc_book(), LABEL, TILL, GAP)],
                             ["LLLTTT", "TLLT"])
            self.assertEqual([least_waiting(TOGETHER, board, board, (0, 0)), least_waiting(TOGETHER, (0, 0), board, (0, 0)),
                              least_waiting(TOGETHER, (0, 0), board, (4, 4)), least_waiting(doc_book(), LABEL, TILL, GAP)],
                             ["LTTLLT", "LLLTTT", "LTTLLT", "TLLT"])
            self.assertEqual([ending(plan), waiting(doc_book(), plan)], [30, 12])
        self.assertEqual([TOGETHER, plan], [Book(0, [(2, 1), (4, 0), (7, 2)]), ([12, 20], [10, 30])])


if __name__ == "__main__":
    unittest.main()
