"""[41] Losses, with what [3], [4] and [12] say of them."""

import unittest

from helpers import (HUGE, doc_book, doc_label, doc_till, moments_around, moved_line, numbers_shown, odd_values,
                     scaled_line, some_pairs)
from labeltill.books import Book
from labeltill.errors import NoLoss
from labeltill.lines import Line
from labeltill.losses import (book_line, greatest_loss, is_loss_visit, least_loss, loss_visit, losses, losses_at,
                              moments_with)
from test_charges import GAP, RULES, by_rule


def numbers_of_book(book, moment):
    """The numbers that a book itself has at a moment: at that of a change the elder one and the newer one."""
    bounds = [None] + book.moments() + [None]
    return [number for number in range(len(book))
            if (number == 0 or bounds[number] <= moment) and (number == len(book) - 1 or moment <= bounds[number + 1])]


def loss_of(book, rule, visit):
    return book[visit[2]] - by_rule(rule, book[visit[0]], book[visit[1]])


def loss_visits_at(label, till, moment, wait):
    return [(number, other, own, moment, wait)
            for number in numbers_shown(label, moment) for other in numbers_shown(till, moment + wait)
            for own in numbers_of_book(label.book, moment + wait)]


def every_loss_visit(label, till, gap):
    """All loss visits around the lines, by trying all courses."""
    return [visit for moment in moments_around(label, till) for wait in range(gap[0], gap[1] + 1)
            for visit in loss_visits_at(label, till, moment, wait)]


class LossesTest(unittest.TestCase):
    def test_of_the_document(self):
        label, till = doc_label(), doc_till()
        self.assertEqual(losses(label, till, GAP, "lower"), [-50, 0, 50, 150])
        self.assertEqual(moments_with(label, till, 0, "till", 1), [(20, 22)])

    def test_book_line(self):
        book = doc_book()
        line = book_line(book)
        self.assertEqual(line, Line(book, (0, 0)))
        self.assertEqual([line.board, line.sent(), line.window(1)], [(0, 0), [10, 20], (10, 20)])
        for label, _, _ in some_pairs(1, 30):
            for moment in moments_around(label):
                known = numbers_of_book(label.book, moment)
                self.assertEqual(book_line(label.book).stretch(moment), (known[0], known[-1]))
                self.assertEqual(label.book.at(moment), (known[0], known[-1]))

    def test_loss_visits(self):
        for label, till, gap in some_pairs(2, 12):
            known = set(every_loss_visit(label, till, gap))
            many = len(label.book)
            for moment in moments_around(label, till):
                for wait in range(gap[0] - 1, gap[1] + 2):
                    for number in range(many):
                        for other in range(many):
                            for own in range(-1, many + 1):
                                thing = (number, other, own, moment, wait)
                                self.assertIs(is_loss_visit(label, till, gap, thing), thing in known)

    def test_loss_visits_of_any_value(self):
        label, till = doc_label(), doc_till()
        good = (1, 1, 1, 14, 1)
        self.assertIs(is_loss_visit(label, till, GAP, good), True)
        for thing in odd_values() + [list(good), good[:4], good + (0,), (1, 1, 14, 1), (good,), "11111",
                                     (3, 1, 1, 14, 1), (1, 3, 1, 14, 1), (1, 1, 3, 14, 1), (1, 1, 0, 14, 1),
                                     (1, 1, 1, 14, 4), (1, 1, 1, 14, -1), (1, 1, 2, 14, 1), (1, 1, -1, 14, 1),
                                     {0: 1, 1: 1, 2: 1, 3: 14, 4: 1}, (10 ** 999,) * 5]:
            self.assertIs(is_loss_visit(label, till, GAP, thing), False)
        for place in range(5):
            for odd in odd_values():
                if not (isinstance(odd, int) and not isinstance(odd, bool)):
                    self.assertIs(is_loss_visit(label, till, GAP, good[:place] + (odd,) + good[place + 1:]), False)
        line = Line(Book(1), (0, 0))
        self.assertIs(is_loss_visit(line, line, (0, 1), (0, 0, 0, 1, 1)), True)
        for place in range(5):
            for truth in (True, False):
                thing = (0, 0, 0, 1, 1)
                self.assertIs(is_loss_visit(line, line, (0, 1), thing[:place] + (truth,) + thing[place + 1:]), False)

    def test_all_losses(self):
        for label, till, gap in some_pairs(3, 40):
            book = label.book
            known = every_loss_visit(label, till, gap)
            for rule in RULES:
                expected = sorted({loss_of(book, rule, visit) for visit in known})
                self.assertEqual(losses(label, till, gap, rule), expected)
                self.assertEqual(greatest_loss(label, till, gap, rule), expected[-1])
                self.assertEqual(least_loss(label, till, gap, rule), expected[0])
                for loss in range(-5, 6):
                    self.check_loss_visit(label, till, gap, rule, loss, known)

    def check_loss_visit(self, label, till, gap, rule, loss, known):
        if loss in losses(label, till, gap, rule):
            visit = loss_visit(label, till, gap, rule, loss)
            self.assertIn(visit, known)
            self.assertIs(is_loss_visit(label, till, gap, visit), True)
            self.assertEqual(loss_of(label.book, rule, visit), loss)
        else:
            with self.assertRaises(NoLoss) as context:
                loss_visit(label, till, gap, rule, loss)
            self.assertEqual(context.exception.loss, loss)

    def test_no_loss(self):
        label, till = doc_label(), doc_till()
        for value in odd_values() + [1, 10 ** 30, 49, [0], (0,), "0", -51, 151]:
            with self.assertRaises(NoLoss) as context:
                loss_visit(label, till, GAP, "lower", value)
            self.assertIs(context.exception.loss, value)
        line = Line(Book(1, [(0, 2)]), (5, 5))
        self.assertEqual(losses(line, line, (0, 0), "till"), [0, 1])
        for value in (True, False):
            with self.assertRaises(NoLoss) as context:
                loss_visit(line, line, (0, 0), "till", value)
            self.assertIs(context.exception.loss, value)

    def test_told_moments(self):
        for label, till, gap in some_pairs(4, 25):
            book = label.book
            at_some = {rule: set() for rule in RULES}
            for moment in moments_around(label, till):
                for wait in range(gap[0], gap[1] + 1):
                    known = loss_visits_at(label, till, moment, wait)
                    for rule in RULES:
                        expected = sorted({loss_of(book, rule, visit) for visit in known})
                        self.assertEqual(losses_at(label, till, moment, wait, rule), expected)
                        at_some[rule].update(expected)
            for rule in RULES:
                self.assertEqual(sorted(at_some[rule]), losses(label, till, gap, rule))

    def test_moments_with(self):
        for label, till, _ in some_pairs(5, 40):
            for wait in (0, 1, 3):
                moments = range(moments_around(label, till)[0] - wait, moments_around(label, till)[-1] + 1)
                for rule in RULES:
                    for loss in range(-4, 5):
                        known = [moment for moment in moments if any(
                            loss_of(label.book, rule, visit) >= loss
                            for visit in loss_visits_at(label, till, moment, wait))]
                        self.check_spans(moments_with(label, till, wait, rule, loss), known, moments)

    def check_spans(self, spans, known, moments):
        self.assertIs(spans.__class__, list)
        found = [moment for moment in moments if any(
            (begin is None or begin <= moment) and (end is None or moment <= end) for begin, end in spans)]
        self.assertEqual(found, known)
        # At the edges of the range tried there is no bound.
        ends = [bound for span in spans for bound in span]
        expected = []
        for moment in known:
            expected += [] if moment - 1 in known else [None if moment == moments[0] else moment]
            expected += [] if moment + 1 in known else [None if moment == moments[-1] else moment]
        self.assertEqual(ends, expected)

    def test_moments_with_ends_without_bound(self):
        label, till = doc_label(), doc_till()
        self.assertEqual(moments_with(label, till, 0, "till", -HUGE), [(None, None)])
        self.assertEqual(moments_with(label, till, 0, "till", 0), [(None, 10), (13, None)])
        self.assertEqual(moments_with(label, till, 0, "till", HUGE), [])
        self.assertEqual(moments_with(label, till, 0, "till", 151), [])
        self.assertEqual(moments_with(label, till, 0, "till", 150), [(20, 22)])
        # The book falls at 10, while the till asks more up to 14: no loss of 0 or more between.
        falling = Line(Book(5, [(10, 3)]), (4, 4))
        self.assertEqual(moments_with(falling, falling, 0, "till", 0), [(None, 10), (14, None)])
        self.assertEqual(moments_with(falling, falling, 2, "till", 0), [(None, 8), (12, None)])
        rising = Line(Book(3, [(10, 5)]), (4, 4))
        self.assertEqual(moments_with(rising, rising, 0, "till", 1), [(10, 14)])
        self.assertEqual(moments_with(rising, rising, 0, "till", 0), [(None, None)])

    def test_stretches_that_touch_are_one(self):
        # From 10 to 12 by the first change, from 13 to 15 by the second one: no moment is between.
        line = Line(Book(3, [(10, 5), (13, 7)]), (2, 2))
        self.assertEqual(moments_with(line, line, 0, "till", 1), [(10, 15)])
        apart = Line(Book(3, [(10, 5), (14, 7)]), (2, 2))
        self.assertEqual(moments_with(apart, apart, 0, "till", 1), [(10, 12), (14, 16)])

    def test_answers_are_ascending(self):
        book = Book(64, [(0, 9), (1, HUGE), (2, 1000), (3, 64), (4, 8), (5, 1)])
        line = Line(book, (0, 9))
        for rule in RULES:
            for answer in (losses(line, line, GAP, rule), losses_at(line, line, 5, 0, rule)):
                self.assertEqual(answer, sorted(set(answer)))
        self.assertEqual(losses_at(line, line, 9, 0, "till"), [1 - HUGE, -999, -63, -8, -7, 0])

    def test_no_change_at_all(self):
        line = Line(Book(5), (0, 3))
        for rule in RULES:
            self.assertEqual(losses(line, line, GAP, rule), [0])
            self.assertEqual([greatest_loss(line, line, GAP, rule), least_loss(line, line, GAP, rule)], [0, 0])
            self.assertIs(is_loss_visit(line, line, (2, 3), loss_visit(line, line, (2, 3), rule, 0)), True)
            self.assertEqual(moments_with(line, line, 3, rule, 0), [(None, None)])
            self.assertEqual(moments_with(line, line, 3, rule, 1), [])

    def test_moved_and_scaled(self):
        for label, till, gap in some_pairs(6, 20):
            by = HUGE
            moved = moved_line(label, by), moved_line(till, by)
            scaled = scaled_line(label, 9), scaled_line(till, 9)
            for rule in RULES:
                known = losses(label, till, gap, rule)
                self.assertEqual(losses(*moved, gap, rule), known)
                self.assertEqual(losses(*scaled, gap, rule), [9 * loss for loss in known])
                self.assertEqual(greatest_loss(*scaled, gap, rule), 9 * known[-1])
                for loss in known:
                    self.assertIs(is_loss_visit(*moved, gap, loss_visit(*moved, gap, rule, loss)), True)
                    self.assertIs(is_loss_visit(*scaled, gap, loss_visit(*scaled, gap, rule, 9 * loss)), True)
                    if len(label.book) > 1:
                        *numbers, moment, wait = loss_visit(label, till, gap, rule, loss)
                        self.assertEqual(loss_visit(*moved, gap, rule, loss), (*numbers, moment + by, wait))
                    spans = moments_with(label, till, 1, rule, loss)
                    self.assertEqual(moments_with(*scaled, 1, rule, 9 * loss), spans)
                    spans = [tuple(None if bound is None else bound + by for bound in span) for span in spans]
                    self.assertEqual(moments_with(*moved, 1, rule, loss), spans)

    def test_great_numbers(self):
        book = Book(HUGE, [(-HUGE, 1), (HUGE, HUGE - 1)])
        label, till = Line(book, (0, 0)), Line(book, (HUGE, HUGE))
        self.assertEqual(losses(label, till, (0, HUGE), "till"), [1 - HUGE, 0, HUGE - 2])
        visit = loss_visit(label, till, (0, HUGE), "till", HUGE - 2)
        self.assertIs(is_loss_visit(label, till, (0, HUGE), visit), True)
        self.assertEqual(moments_with(label, till, HUGE, "till", HUGE - 2), [(0, HUGE)])
        self.assertEqual(losses_at(label, till, -HUGE, HUGE, "till"), [1 - HUGE, 0])

    def test_twelve_changes(self):
        book = Book(6, [(moment, moment * moment % 13) for moment in range(12)])
        label, till = Line(book, (0, HUGE)), Line(book, (0, HUGE))
        # The till is never ahead of the book, but at the moment of a change may show the newer price.
        expected = {book[own] - book[other] for own in range(13) for other in range(min(own + 2, 13))}
        self.assertEqual(losses(label, till, (0, HUGE), "till"), sorted(expected))
        self.assertEqual(losses(label, till, (0, 0), "shown"), sorted(expected))
        self.assertEqual(greatest_loss(label, till, (0, 0), "shown"), 12)

    def test_asked_by_turns(self):
        first = doc_label(), doc_till()
        second = Line(Book(1, [(0, 2)]), (0, 1)), Line(Book(1, [(0, 2)]), (0, 0))
        for _ in range(3):
            answer = losses(*first, GAP, "lower")
            self.assertEqual(answer, [-50, 0, 50, 150])
            answer.clear()
            answer = moments_with(*second, 0, "shown", 1)
            self.assertEqual(answer, [(0, 1)])
            answer.append(None)
            answer = losses_at(*first, 20, 1, "till")
            self.assertEqual(answer, [0, 150])
            answer.pop()
        self.assertEqual(first, (doc_label(), doc_till()))


if __name__ == "__main__":
    unittest.main()
