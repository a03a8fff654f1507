"""[60] Telling rules, and [9] which are safe, with what [3], [4] and [12] say of them."""

import unittest
from itertools import product
from random import Random

from helpers import HUGE, Case, doc_book, numbers_shown, odd_values, some_board
from labeltill.books import Book
from labeltill.lines import Line
from labeltill.plans import is_plan
from labeltill.rules import (apart_for, how_many_rules, is_rule, is_safe_rule, keeps_apart, least_apart, least_rule,
                             lines_told, rule_above, sent_by)

BOARDS, GAP = ((0, 4), (1, 2)), (0, 3)
SMALL = range(9)


def some_settings(seed, many, most=3):
    """Tuples of the boards of a label and a till, a gap, and how far changes are apart."""
    random = Random(seed)
    return [((some_board(random, most), some_board(random, most)), some_board(random, most), random.randint(1, 5))
            for _ in range(many)]


def book_apart(random, most, apart, prices=4):
    """A book of at most so many changes that keeps apart, some of them by just so much."""
    moments = [random.randint(-5, 5)]
    for _ in range(random.randint(0, most)):
        moments.append(moments[-1] + apart + random.choice([0, 0, 1, 4]))
    return Book(random.randint(0, prices), [(moment, random.randint(0, prices)) for moment in moments[1:]])


def sent_by_hand(rule, book):
    """When the changes are sent to both boards, straight from the definition."""
    label, till = [], []
    for index, (moment, price) in enumerate(book.changes()):
        elder = book.prices()[index]
        to_label, to_till = moment, moment
        if price > elder:
            to_till = moment + rule[0]
        if price < elder:
            to_label = moment + rule[1]
        label.append(max([to_label] + label))
        till.append(max([to_till] + till))
    return label, till


def can_be_charged_over(lines, gap):
    """Whether the till can ask more than the label shows, by trying all courses."""
    label, till = lines
    known = [moment for line in lines for moment in line.earliest() + line.latest()]
    for looked in range(min(known, default=0) - gap[1] - 1, max(known, default=0) + 2):
        shown = [label.book[number] for number in numbers_shown(label, looked)]
        for paid in range(looked + gap[0], looked + gap[1] + 1):
            if max(till.book[number] for number in numbers_shown(till, paid)) > min(shown):
                return True
    return False


def is_safe_by_hand(rule, boards, gap, apart):
    """Whether no one of the small books of at most two changes is charged over, by trying all courses."""
    for moments in [(0,)] + [(0, apart + more) for more in range(3)]:
        for prices in product(range(3), repeat=len(moments) + 1):
            book = Book(prices[0], list(zip(moments, prices[1:])))
            if can_be_charged_over(lines_told(rule, book, boards), gap):
                return False
    return True


class RulesTest(Case):
    def test_of_the_document(self):
        self.assertEqual(sent_by((7, 3), doc_book()), ([13, 20], [10, 27]))
        self.assertIs(is_safe_rule((7, 3), BOARDS, GAP, 9), True)
        self.assertEqual([least_rule(BOARDS, GAP, 9), least_apart(BOARDS, GAP), least_rule(BOARDS, GAP, 4)],
                         [(7, 3), 5, None])
        self.assertEqual([apart_for((9, 3), BOARDS, GAP), how_many_rules(BOARDS, GAP, 9, 10)], [9, 30])

    def test_rules_of_any_value(self):
        for thing in ((0, 0), (3, 1), (1, 3), (HUGE, 10 ** 999)):
            self.assertIs(is_rule(thing), True)
        for thing in odd_values() + [[0, 0], (1,), (1, 2, 3), (-1, 0), (0, -1), (-HUGE, 0), (None, 0), ("1", "2"), "12",
                                     ((1, 2),), ([1], [2]), {1: 2, 2: 1}, {1, 2}, (1, None), b"12", 12]:
            self.assertIs(is_rule(thing), False)
        for truth in (True, False):
            self.assertIs(is_rule((truth, 1)), False)
            self.assertIs(is_rule((1, truth)), False)
        for odd in odd_values():
            self.assertIs(is_rule((odd, 1)), False)
            self.assertIs(is_rule((1, odd)), False)

    def test_sent_by(self):
        rising, falling = Book(1, [(0, 2), (9, 5)]), Book(5, [(0, 2), (9, 1)])
        self.assertEqual(sent_by((4, 2), rising), ([0, 9], [4, 13]))
        self.assertEqual(sent_by((4, 2), falling), ([2, 11], [0, 9]))
        self.assertEqual(sent_by((4, 2), Book(5, [(0, 5), (9, 5)])), ([0, 9], [0, 9]))
        self.assertEqual(sent_by((4, 2), Book(5)), ([], []))

    def test_what_comes_faster_than_the_rule_waits_is_sent_together(self):
        # The fall at 1 is told to the label at 6 only, and so are the rise at 2 and the change at 3 that is none.
        book = Book(5, [(1, 4), (2, 6), (3, 6), (6, 6), (7, 2)])
        self.assertEqual(sent_by((3, 5), book), ([6, 6, 6, 6, 12], [1, 5, 5, 6, 7]))
        self.assertEqual(sent_by((9, 0), book), ([1, 2, 3, 6, 7], [1, 11, 11, 11, 11]))
        self.assertEqual(sent_by((0, 0), book), ([1, 2, 3, 6, 7], [1, 2, 3, 6, 7]))

    def test_sent_by_the_definition(self):
        random = Random(1)
        for _ in range(200):
            book = book_apart(random, 8, random.randint(1, 3))
            rule = random.randint(0, 6), random.randint(0, 6)
            found = sent_by(rule, book)
            self.assertEqual(found, sent_by_hand(rule, book))
            self.assertIs(is_plan(book, found), True)
            self.assertEqual(lines_told(rule, book, BOARDS),
                             (Line(book, BOARDS[0], found[0]), Line(book, BOARDS[1], found[1])))

    def test_keeps_apart(self):
        book = Book(1, [(-5, 2), (0, 2), (7, 1)])
        self.assertEqual([keeps_apart(book, apart) for apart in (1, 4, 5, 6, 7, HUGE)],
                         [True, True, True, False, False, False])
        for book in (Book(1), Book(1, [(0, 0)])):
            self.assertIs(keeps_apart(book, HUGE), True)
        self.assertIs(keeps_apart(Book(1, [(-HUGE, 0), (0, 0)]), HUGE), True)
        self.assertIs(keeps_apart(Book(1, [(-HUGE, 0), (0, 0)]), HUGE + 1), False)
        self.assertIs(keeps_apart(Book(1, [(0, 0), (9, 0), (12, 0)]), 4), False)

    def test_each_inequality_at_just_its_bound(self):
        boards, gap = ((2, 9), (3, 7)), (1, 4)
        # up > 9 + 4 - 3, down > 7 - 2 - 1; with 8 apart, up - down > 10 - 8, and down - up > 4 - 8.
        for rule, apart, known in (((11, 5), 90, True), ((10, 5), 90, False), ((11, 4), 90, False), ((10, 4), 90, False),
                                   ((11, 8), 8, True), ((11, 9), 8, False), ((12, 9), 8, True),
                                   ((14, 11), 8, True), ((15, 11), 8, False), ((15, 12), 8, True),
                                   ((11, 8), 7, False), ((11, 8), 9, True), ((14, 11), 7, False)):
            self.assertIs(is_safe_rule(rule, boards, gap, apart), known)

    def test_safe_for_small_books(self):
        many = 0
        for boards, gap, apart in some_settings(2, 12, 2):
            for rule in product(range(6), range(6)):
                known = is_safe_by_hand(rule, boards, gap, apart)
                self.assertIs(is_safe_rule(rule, boards, gap, apart), known)
                many += known
        self.assertTrue(30 < many < 300)

    def test_a_safe_rule_is_safe_for_all_books(self):
        random = Random(3)
        for boards, gap, apart in some_settings(4, 40, 2):
            rule = least_rule(boards, gap, apart)
            if rule is not None:
                for _ in range(12):
                    book = book_apart(random, 8, apart)
                    label, till = lines_told(rule, book, boards)
                    for one, other in product(range(len(book)), repeat=2):
                        if book[other] > book[one]:
                            begin, end = till.window(other)
                            first, last = label.window(one)
                            parted = (last is not None and begin is not None and last + gap[1] < begin
                                      or end is not None and first is not None and end < first + gap[0])
                            self.assertTrue(parted)

    def test_least_rules(self):
        none = 0
        for boards, gap, apart in some_settings(5, 150, 2):
            safe = [rule for rule in product(range(12), repeat=2) if is_safe_rule(rule, boards, gap, apart)]
            found = least_rule(boards, gap, apart)
            if not safe:
                self.assertIsNone(found)
                none += 1
            else:
                self.assertIn(found, safe)
                self.assertEqual(found, (min(up for up, _ in safe), min(down for _, down in safe)))
        self.assertTrue(5 < none < 100)

    def test_rule_above(self):
        for boards, gap, apart in some_settings(6, 40, 2):
            safe = [rule for rule in product(range(20), repeat=2) if is_safe_rule(rule, boards, gap, apart)]
            for rule in product((0, 1, 3, 7), (0, 2, 5, 6)):
                above = [(up, down) for up, down in safe if up >= rule[0] and down >= rule[1]]
                known = (min(up for up, _ in above), min(down for _, down in above)) if above else None
                self.assertEqual(rule_above(rule, boards, gap, apart), known)

    def test_the_least_rule_is_safe_and_one_less_is_not(self):
        for boards, gap, apart in some_settings(7, 100, 10 ** 6) + some_settings(8, 100, HUGE):
            apart = least_apart(boards, gap) + apart - 1
            up, down = least_rule(boards, gap, apart)
            self.assertIs(is_safe_rule((up, down), boards, gap, apart), True)
            for rule in ((up - 1, down), (up, down - 1)):
                self.assertFalse(min(rule) >= 0 and is_safe_rule(rule, boards, gap, apart))
            above = rule_above((up + 5, 0), boards, gap, apart)
            self.assertIs(is_safe_rule(above, boards, gap, apart), True)
            self.assertEqual(above[0], up + 5)
            self.assertFalse(above[1] > 0 and is_safe_rule((above[0], above[1] - 1), boards, gap, apart))

    def test_least_apart(self):
        for boards, gap, _ in some_settings(9, 100):
            known = [apart for apart in range(1, 12) if least_rule(boards, gap, apart) is not None]
            self.assertEqual(least_apart(boards, gap), known[0])
            self.assertEqual(known, list(range(known[0], 12)))
        self.assertEqual(least_apart(((3, 3), (5, 5)), (2, 2)), 1)
        self.assertEqual(least_apart(((3, 4), (5, 5)), (2, 2)), 2)
        self.assertEqual(least_apart(((3, 4), (5, 6)), (2, 2)), 2)
        self.assertEqual(least_apart(((3, 4), (5, 6)), (2, 3)), 3)

    def test_apart_for(self):
        kinds = set()
        for boards, gap, _ in some_settings(10, 60):
            for rule in product(SMALL, SMALL):
                known = [apart for apart in range(1, 30) if is_safe_rule(rule, boards, gap, apart)]
                self.assertEqual(apart_for(rule, boards, gap), known[0] if known else None)
                kinds.add(known[0] if known else None)
        self.assertTrue({None, 1, 2, 5} <= kinds)

    def test_how_many_rules(self):
        for boards, gap, apart in some_settings(11, 120):
            for most in (0, 1, 2, 5, 9, 14):
                known = sum(is_safe_rule(rule, boards, gap, apart) for rule in product(range(most + 1), repeat=2))
                self.assertEqual(how_many_rules(boards, gap, apart, most), known)

    def test_how_many_rules_of_great_ones(self):
        # From one greatest integer to the next, the rules are new of which one part is just this integer.
        for boards, gap, apart in some_settings(12, 40) + some_settings(13, 40, HUGE):
            for most in (HUGE, 3 * HUGE, 50 * HUGE + 7):
                rising = boards[0][1] + gap[1] - boards[1][0]
                falling = boards[1][1] - boards[0][0] - gap[0]
                for wide in (apart, apart + HUGE):
                    # Of most as up, the downs from one to another; of most as down, the ups below most.
                    downs = self.stretch(max(0, falling + 1, most + falling - wide + 1), min(most, most - rising + wide - 1))
                    ups = self.stretch(max(0, rising + 1, most + rising - wide + 1), min(most - 1, most - falling + wide - 1))
                    new = (downs if most > rising else 0) + (ups if most > falling else 0)
                    self.assertEqual(how_many_rules(boards, gap, wide, most) - how_many_rules(boards, gap, wide, most - 1),
                                     new)

    def stretch(self, low, high):
        return max(0, high - low + 1)

    def test_great_numbers(self):
        boards, gap = ((0, HUGE), (0, HUGE)), (0, HUGE)
        self.assertEqual(least_apart(boards, gap), 3 * HUGE // 2 + 1)
        self.assertEqual(least_rule(boards, gap, 3 * HUGE), (2 * HUGE + 1, HUGE + 1))
        self.assertIsNone(least_rule(boards, gap, 3 * HUGE // 2))
        self.assertEqual(rule_above((5 * HUGE, 0), boards, gap, 3 * HUGE), (5 * HUGE, 3 * HUGE + 1))
        self.assertEqual(apart_for((2 * HUGE + 1, HUGE + 1), boards, gap), 2 * HUGE + 1)
        self.assertEqual(how_many_rules(boards, gap, 3 * HUGE, 2 * HUGE + 1), HUGE + 1)
        self.assertEqual(sent_by((HUGE, 2 * HUGE), Book(1, [(-HUGE, 0), (HUGE, HUGE)])), ([HUGE, HUGE], [-HUGE, 2 * HUGE]))

    def test_moved_and_scaled(self):
        random = Random(14)
        for _ in range(40):
            book, rule = book_apart(random, 6, 1), (random.randint(0, 4), random.randint(0, 4))
            label, till = sent_by(rule, book)
            for by in (HUGE, -HUGE):
                found = sent_by(rule, book.moved(by).scaled(3))
                self.assertEqual(found, ([at + by for at in label], [at + by for at in till]))
                for apart in (1, 2, 4):
                    self.assertIs(keeps_apart(book.moved(by).scaled(3), apart), keeps_apart(book, apart))

    def test_asked_by_turns(self):
        book = doc_book()
        for _ in range(3):
            sent = sent_by((7, 3), book)
            self.assertEqual([sent, sent_by((3, 7), book)], [([13, 20], [10, 27]), ([17, 20], [10, 23])])
            sent[0].clear()
            sent[1].append(5)
            told = lines_told((7, 3), book, BOARDS)
            told[0].sent().clear()
            self.assertEqual(told, (Line(book, (0, 4), [13, 20]), Line(book, (1, 2), [10, 27])))
            self.assertEqual([least_rule(BOARDS, GAP, 9), least_rule(BOARDS[::-1], GAP, 9), least_rule(BOARDS, (0, 4), 9),
                              least_rule(BOARDS, GAP, 5)], [(7, 3), (6, 4), (8, 3), (7, 5)])
            self.assertEqual([how_many_rules(BOARDS, GAP, 9, 10), how_many_rules(BOARDS, GAP, 9, 7)], [30, 5])
        self.assertEqual(book, doc_book())
        empty = sent_by((1, 1), Book(1))
        self.assertIsNot(empty[0], empty[1])


if __name__ == "__main__":
    unittest.main()
