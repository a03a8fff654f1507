"""[40] Charges, with what [3], [4] and [12] say of them."""

import unittest

from helpers import (HUGE, doc_label, doc_till, moments_around, moved_line, numbers_shown, odd_values, scaled_line,
                     some_pairs)
from labeltill.bands import moments_of
from labeltill.books import Book
from labeltill.charges import (charged, charges, charges_at, charges_for, greatest_over, is_visit, over_visit, overs,
                               rules_of, surely_charged)
from labeltill.errors import NoPrice
from labeltill.lines import Line

RULES = ["till", "shown", "lower"]
GAP = (0, 3)


def by_rule(rule, shown, asked):
    return {"till": asked, "shown": shown, "lower": asked if asked < shown else shown}[rule]


def every_visit(label, till, gap):
    """All visits around the lines, by trying all courses."""
    moments = moments_around(label, till)
    return [(number, other, moment, wait)
            for moment in moments for number in numbers_shown(label, moment)
            for wait in range(gap[0], gap[1] + 1) for other in numbers_shown(till, moment + wait)]


class ChargesTest(unittest.TestCase):
    def test_of_the_document(self):
        label, till = doc_label(), doc_till()
        self.assertEqual(charges(label, till, GAP, "till"), [250, 300, 400])
        self.assertEqual(charges_at(label, till, 20, 1, "till"), [250, 400])
        self.assertEqual(surely_charged(label, till, 9, 3, "shown"), 300)
        self.assertIsNone(surely_charged(label, till, 11, 3, "lower"))
        self.assertEqual(overs(label, till, GAP, "till"), [-150, -50, 0, 50, 150])
        self.assertEqual(greatest_over(label, till, GAP, "till"), 150)
        self.assertEqual(greatest_over(label, till, GAP, "lower"), 0)
        self.assertEqual(rules_of(label, till, GAP, 300, 250), ["till", "lower"])
        self.assertIs(is_visit(label, till, GAP, (1, 2, 20, 1)), True)
        self.assertIs(is_visit(label, till, GAP, (1, 2, 10, 1)), False)

    def test_three_rules(self):
        for shown, asked in ((1, 2), (2, 1), (3, 3), (0, HUGE), (HUGE, 0), (0, 0)):
            self.assertEqual(charged("till", shown, asked), asked)
            self.assertEqual(charged("shown", shown, asked), shown)
            self.assertEqual(charged("lower", shown, asked), min(shown, asked))

    def test_visits(self):
        for label, till, gap in some_pairs(1, 25):
            known = set(every_visit(label, till, gap))
            many = len(label.book)
            for moment in moments_around(label, till):
                for wait in range(gap[0] - 1, gap[1] + 2):
                    for number in range(-1, many + 1):
                        for other in range(-1, many + 1):
                            thing = (number, other, moment, wait)
                            self.assertIs(is_visit(label, till, gap, thing), thing in known)

    def test_visits_of_any_value(self):
        label, till = doc_label(), doc_till()
        good = (1, 1, 14, 1)
        self.assertIs(is_visit(label, till, GAP, good), True)
        self.assertIs(is_visit(label, till, GAP, (0, 0, -HUGE, 0)), True)
        self.assertIs(is_visit(label, till, GAP, (2, 2, HUGE, 3)), True)
        for thing in odd_values() + [list(good), good[:3], good + (0,), (1, 1, 14), ((1, 1), (14, 1)), (good,),
                                     (3, 1, 14, 1), (1, 3, 14, 1), (1, 1, 14, 4), (1, 1, 14, -1), (-1, 1, 14, 1),
                                     {0: 1, 1: 1, 2: 14, 3: 1}, "1111", (2, 2, HUGE, HUGE), (10 ** 999,) * 4]:
            self.assertIs(is_visit(label, till, GAP, thing), False)
        for place in range(4):
            for odd in odd_values():
                if not (isinstance(odd, int) and not isinstance(odd, bool)):
                    self.assertIs(is_visit(label, till, GAP, good[:place] + (odd,) + good[place + 1:]), False)
        # Truths are equal to 0 and 1, and are none of the integers that would do.
        self.assertIs(is_visit(Line(Book(1), (0, 0)), Line(Book(1), (0, 0)), (0, 1), (0, 0, 1, 0)), True)
        for thing in ((False, 0, 1, 0), (0, False, 1, 0), (0, 0, True, 0), (0, 0, 1, False), (0, 0, 1, True)):
            self.assertIs(is_visit(Line(Book(1), (0, 0)), Line(Book(1), (0, 0)), (0, 1), thing), False)

    def test_charges_and_overs(self):
        for label, till, gap in some_pairs(2, 60):
            book = label.book
            known = every_visit(label, till, gap)
            for rule in RULES:
                pairs = {(book[number], by_rule(rule, book[number], book[other])) for number, other, _, _ in known}
                self.assertEqual(charges(label, till, gap, rule), sorted({paid for _, paid in pairs}))
                expected = sorted({paid - shown for shown, paid in pairs})
                self.assertEqual(overs(label, till, gap, rule), expected)
                self.assertEqual(greatest_over(label, till, gap, rule), expected[-1])
                for price in book.prices():
                    self.assertEqual(charges_for(label, till, gap, rule, price),
                                     sorted({paid for shown, paid in pairs if shown == price}))
                self.check_over_visit(label, till, gap, rule, known)

    def check_over_visit(self, label, till, gap, rule, known):
        visit = over_visit(label, till, gap, rule)
        self.assertIs(visit.__class__, tuple)
        self.assertIs(is_visit(label, till, gap, visit), True)
        self.assertIn(visit, known)
        shown, asked = label.book[visit[0]], label.book[visit[1]]
        self.assertEqual(by_rule(rule, shown, asked) - shown, greatest_over(label, till, gap, rule))

    def test_rules_of_receipts(self):
        for label, till, gap in some_pairs(3, 50):
            book = label.book
            known = [(book[number], book[other]) for number, other, _, _ in every_visit(label, till, gap)]
            for shown in book.prices():
                for paid in book.prices():
                    expected = [rule for rule in RULES
                                if any(seen == shown and by_rule(rule, seen, asked) == paid for seen, asked in known)]
                    self.assertEqual(rules_of(label, till, gap, shown, paid), expected)

    def test_told_moments(self):
        for label, till, gap in some_pairs(4, 30):
            book = label.book
            moments = moments_around(label, till)
            at_some = {rule: set() for rule in RULES}
            for moment in moments:
                for wait in range(gap[0], gap[1] + 1):
                    shown = [book[number] for number in numbers_shown(label, moment)]
                    asked = [book[number] for number in numbers_shown(till, moment + wait)]
                    for rule in RULES:
                        expected = sorted({by_rule(rule, one, other) for one in shown for other in asked})
                        self.assertEqual(charges_at(label, till, moment, wait, rule), expected)
                        self.assertEqual(surely_charged(label, till, moment, wait, rule),
                                         expected[0] if len(expected) == 1 else None)
                        at_some[rule].update(expected)
            for rule in RULES:
                # What can be charged at some told moments can be charged, and the other way round.
                self.assertEqual(sorted(at_some[rule]), charges(label, till, gap, rule))

    def test_surely_nothing_is_not_none(self):
        line = Line(Book(0), (0, 0))
        self.assertEqual(surely_charged(line, line, 5, 5, "till"), 0)
        self.assertIsNotNone(surely_charged(line, line, 5, 5, "lower"))

    def test_prices_that_come_again(self):
        line = Line(Book(1, [(0, 2), (1, 1), (2, 2)]), (0, 9))
        self.assertEqual(surely_charged(line, line, 5, 0, "lower"), None)
        self.assertEqual(charges_at(line, line, 5, 0, "till"), [1, 2])
        self.assertEqual(charges_for(line, line, (0, 0), "shown", 2), [2])
        self.assertEqual(charges_for(line, line, (0, 0), "lower", 2), [1, 2])
        same = Line(Book(3, [(0, 3), (5, 3)]), (0, 9))
        self.assertEqual([charges(same, same, GAP, rule) for rule in RULES], [[3], [3], [3]])
        self.assertEqual(surely_charged(same, same, 0, 3, "till"), 3)
        self.assertEqual(overs(same, same, GAP, "till"), [0])

    def test_answers_are_ascending(self):
        book = Book(64, [(0, 9), (1, HUGE), (2, 1000), (3, 64), (4, 8), (5, 1)])
        label, till = Line(book, (0, 9)), Line(book, (0, 9))
        ascending = [1, 8, 9, 64, 1000, HUGE]
        self.assertEqual(charges(label, till, GAP, "till"), ascending)
        self.assertEqual(charges_at(label, till, 7, 0, "till"), ascending)
        self.assertEqual(charges_for(label, till, GAP, "till", 64), ascending)
        self.assertEqual(charges_for(label, till, GAP, "lower", 1000), [1, 8, 9, 64, 1000])
        for rule in RULES:
            self.assertEqual(overs(label, till, GAP, rule), sorted(overs(label, till, GAP, rule)))

    def test_no_price(self):
        label, till = doc_label(), doc_till()
        self.assertEqual(charges_for(label, till, GAP, "till", 300), [250, 300])
        for value in odd_values() + [299, 1, HUGE, [300], (300,), "300"]:
            for rule in RULES:
                with self.assertRaises(NoPrice) as context:
                    charges_for(label, till, GAP, rule, value)
                self.assertIs(context.exception.price, value)
        line = Line(Book(1, [(0, 0)]), (0, 0))
        for value in (True, False):
            with self.assertRaises(NoPrice) as context:
                charges_for(line, line, GAP, "till", value)
            self.assertIs(context.exception.price, value)

    def test_no_change_at_all(self):
        line = Line(Book(5), (0, 3))
        for rule in RULES:
            self.assertEqual([charges(line, line, GAP, rule), overs(line, line, GAP, rule)], [[5], [0]])
            self.assertIs(is_visit(line, line, (2, 3), over_visit(line, line, (2, 3), rule)), True)
        self.assertEqual(rules_of(line, line, GAP, 5, 5), RULES)

    def test_moved_and_scaled(self):
        for label, till, gap in some_pairs(5, 30):
            for rule in RULES:
                moved = moved_line(label, HUGE), moved_line(till, HUGE)
                self.assertEqual(charges(*moved, gap, rule), charges(label, till, gap, rule))
                self.assertEqual(overs(*moved, gap, rule), overs(label, till, gap, rule))
                self.assertIs(is_visit(*moved, gap, over_visit(*moved, gap, rule)), True)
                if len(label.book) > 1:
                    number, other, moment, wait = over_visit(label, till, gap, rule)
                    self.assertEqual(over_visit(*moved, gap, rule), (number, other, moment + HUGE, wait))
                scaled = scaled_line(label, 7), scaled_line(till, 7)
                self.assertEqual(charges(*scaled, gap, rule), [7 * price for price in charges(label, till, gap, rule)])
                self.assertEqual(overs(*scaled, gap, rule), [7 * over for over in overs(label, till, gap, rule)])
                self.assertEqual(greatest_over(*scaled, gap, rule), 7 * greatest_over(label, till, gap, rule))
                self.assertEqual(over_visit(*scaled, gap, rule), over_visit(label, till, gap, rule))

    def test_great_numbers(self):
        book = Book(HUGE, [(-HUGE, 1), (HUGE, HUGE - 1)])
        label, till = Line(book, (0, 0)), Line(book, (HUGE, HUGE))
        gap = (0, HUGE)
        self.assertEqual(charges(label, till, gap, "till"), [1, HUGE - 1, HUGE])
        self.assertEqual(overs(label, till, gap, "till"), [1 - HUGE, 2 - HUGE, 0, HUGE - 2, HUGE - 1])
        visit = over_visit(label, till, gap, "till")
        self.assertIs(is_visit(label, till, gap, visit), True)
        self.assertEqual(visit[:2], (1, 0))
        self.assertEqual(surely_charged(label, till, -HUGE, HUGE - 1, "till"), HUGE)
        self.assertIsNone(surely_charged(label, till, -HUGE, HUGE, "till"))
        self.assertEqual(rules_of(label, till, gap, 1, HUGE), ["till"])
        for wait in (0, HUGE):
            self.assertEqual(over_visit(label, label, (wait, wait), "till")[3], wait)

    def test_asked_by_turns(self):
        first = doc_label(), doc_till()
        second = Line(Book(1, [(0, 2)]), (0, 1)), Line(Book(1, [(0, 2)]), (0, 0))
        for _ in range(3):
            answer = charges(*first, GAP, "till")
            self.assertEqual(answer, [250, 300, 400])
            answer.clear()
            answer = overs(*second, GAP, "till")
            self.assertEqual(answer, [-1, 0, 1])
            answer.append(9)
            answer = rules_of(*first, GAP, 300, 250)
            self.assertEqual(answer, ["till", "lower"])
            answer.reverse()
            self.assertEqual(charges_for(*second, GAP, "lower", 2), [1, 2])
            charges_at(*first, 20, 1, "till").clear()
            self.assertEqual(charges_at(*first, 20, 1, "till"), [250, 400])
        self.assertEqual(first, (doc_label(), doc_till()))

    def test_the_moments_of_the_over_visit(self):
        label, till = doc_label(), doc_till()
        number, other, moment, wait = over_visit(label, till, GAP, "till")
        self.assertEqual((number, other), (1, 2))
        begin, end = moments_of(label, 1, till, 2, GAP)
        self.assertTrue(begin <= moment <= end and 0 <= wait <= 3)


if __name__ == "__main__":
    unittest.main()
