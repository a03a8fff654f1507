"""[80] Days, with what [3], [4], [11] and [12] say of them."""

import unittest
from itertools import product
from random import Random

from helpers import (HUGE, Case, doc_book, doc_label, doc_till, moments_around, moved_line, numbers_shown, odd_values,
                     scaled_line, shows, some_pairs)
from labeltill.books import Book
from labeltill.charges import RULES
from labeltill.days import (are_buyers, courses_of, greatest_row, greatest_sum, is_row, least_row, least_sum, sum_of,
                            triples_at, worth_of)
from labeltill.lines import Line
from labeltill.losses import book_line
from test_sightings import every_row

WORTHS = "charged", "over", "loss"
KINDS = list(product(RULES, WORTHS))
BUYERS = [(11, 12), (14, 20)]


def some_buyers(random, label, till, most):
    """Buyers one behind another, at moments at which their lines change, several at one moment among them."""
    moments = list(moments_around(label, till))
    at = sorted(random.choice(moments[2:-2]) for _ in range(2 * random.randint(0, most)))
    if len(at) > 3 and random.random() < 0.4:
        at[2] = at[1]
    return list(zip(at[::2], at[1::2]))


def some_days(seed, many, most=3):
    """Tuples of a label, a till and buyers, small enough to try all courses."""
    random = Random(seed)
    return [(label, till, some_buyers(random, label, till, most)) for label, till, _ in some_pairs(seed, many)]


def every_day_row(label, till, buyers):
    """All rows of buyers, by trying all courses of both lines and of the book's own line."""
    looked, paid = [(moment, None) for moment, _ in buyers], [(moment, None) for _, moment in buyers]
    columns = every_row(label, looked), every_row(till, paid), every_row(book_line(label.book), paid)
    return sorted(list(zip(*told)) for told in product(*columns))


def brought(prices, rule, worth, triple):
    """What a buyer brings, straight from the definition."""
    shown, asked, own = [prices[number] for number in triple]
    paid = {"till": asked, "shown": shown, "lower": min(shown, asked)}[rule]
    return {"charged": paid, "over": paid - shown, "loss": own - paid}[worth]


def sum_by_hand(label, rule, worth, row):
    return sum(brought(label.book.prices(), rule, worth, triple) for triple in row)


class DaysTest(Case):
    def test_of_the_document(self):
        label, till = doc_label(), doc_till()
        self.assertEqual([triples_at(label, till, (14, 20)), greatest_sum(label, till, BUYERS, "till", "over")],
                         [[(0, 1, 1), (0, 1, 2), (1, 1, 1), (1, 1, 2)], 50])
        row = greatest_row(label, till, BUYERS, "till", "over")
        self.assertEqual([row, least_sum(label, till, BUYERS, "lower", "charged")], [[(1, 0, 1), (1, 1, 1)], 500])
        shown, asked = courses_of(label, till, BUYERS, row)
        self.assertEqual([label.is_course(shown), till.is_course(asked)], [True, True])

    def test_buyers(self):
        for thing in ([], [(0, 0)], [(-5, 3)], [(11, 12), (14, 20)], [(1, 2), (2, 2), (2, 2), (2, 9)], [(0, 0)] * 9,
                      [(-HUGE, HUGE)], [(10 ** 999, 10 ** 999)], [(number, number) for number in range(600)]):
            self.assertIs(are_buyers(thing), True)
        # One who pays ahead of looking; one who looks ahead of the payment of the one ahead, by one moment.
        for thing in ([(1, 0)], [(0, 1), (2, 1)], [(0, 1), (0, 1)], [(0, 2), (1, 3)], [(5, 5), (4, 9)],
                      [(0, 1), (1, 2), (1, 3)], [(3, 9), (10, 11), (9, 12)]):
            self.assertIs(are_buyers(thing), False)

    def test_buyers_of_any_value(self):
        for thing in odd_values() + [
                ((11, 12), (14, 20)), (11, 12), [11, 12], [[11, 12], [14, 20]], [(11, 12), [14, 20]], [(11, 12, 13)],
                [(11,)], [()], [(True, 12)], [(0, True)], [(False, False)], [(None, 12)], [(11, None)], [("11", "12")],
                [(11, "12")], [((11,), 12)], [[]], [None], [(11, 12), None], [(11, 12), ()], {(11, 12): 0}, {(11, 12)},
                "ab", ["ab"], [b"ab"], [{11: 12, 13: 14}], [{11, 12}]]:
            if thing != []:
                self.assertIs(are_buyers(thing), False, thing)
        for odd in odd_values():
            if odd not in (-1, -HUGE) or isinstance(odd, bool):
                for thing in ([odd], [(odd, 12)], [(0, odd)], [(11, 12), odd], [(11, 12), (odd, 20)], [(11, 12), (14, odd)]):
                    self.assertIs(are_buyers(thing), False)

    def test_triples_by_all_courses(self):
        for label, till, _ in some_days(1, 60):
            for looked in moments_around(label, till):
                for paid in (looked, looked + 1, looked + 3):
                    known = product(numbers_shown(label, looked), numbers_shown(till, paid),
                                    numbers_shown(book_line(label.book), paid))
                    found = triples_at(label, till, (looked, paid))
                    self.assertEqual(found, sorted(known))
                    self.assertEqual([found.__class__, found[0].__class__], [list, tuple])

    def test_triples_at_the_moment_of_a_change(self):
        line = book_line(doc_book())
        self.assertEqual([triples_at(line, line, (9, moment)) for moment in (9, 10, 11, 20, 21)],
                         [[(0, 0, 0)], [(0, 0, 0), (0, 0, 1), (0, 1, 0), (0, 1, 1)], [(0, 1, 1)],
                          [(0, 1, 1), (0, 1, 2), (0, 2, 1), (0, 2, 2)], [(0, 2, 2)]])
        plain = Line(Book(4), (1, 5))
        self.assertEqual(triples_at(plain, plain, (-HUGE, HUGE)), [(0, 0, 0)])

    def test_worth(self):
        book = Book(300, [(10, 250), (20, 400)])
        # Shown 250, asked 400, the book's own 300; and shown 400, asked 250.
        for triple, known in (((1, 2, 0), {"till": (400, 150, -100), "shown": (250, 0, 50), "lower": (250, 0, 50)}),
                              ((2, 1, 0), {"till": (250, -150, 50), "shown": (400, 0, -100), "lower": (250, -150, 50)})):
            for rule, told in known.items():
                self.assertEqual(tuple(worth_of(book, rule, worth, triple) for worth in WORTHS), told)
        for rule, worth in KINDS:
            for triple in product(range(3), repeat=3):
                self.assertEqual(worth_of(book, rule, worth, triple), brought(book.prices(), rule, worth, triple))

    def test_sums(self):
        book = doc_book()
        row = [(1, 2, 0), (0, 0, 0), (2, 1, 1)]
        self.assertEqual([sum_of(book, "till", worth, row) for worth in WORTHS], [950, 0, -100])
        self.assertEqual([sum_of(book, "lower", worth, row) for worth in WORTHS], [800, -150, 50])
        self.assertEqual([sum_of(book, rule, worth, []) for rule, worth in KINDS], [0] * 9)
        # What is no row of any buyers has a sum, too.
        self.assertEqual(sum_of(book, "shown", "charged", [(2, 0, 0), (0, 0, 2), (2, 2, 2)] * 4), 4400)

    def test_rows_by_all_courses(self):
        rows = others = 0
        for label, till, buyers in some_days(2, 250, 2):
            known = every_day_row(label, till, buyers)
            numbers = range(len(label.book))
            tried = product(product(numbers, repeat=3), repeat=len(buyers))
            self.assertEqual([list(thing) for thing in tried if is_row(label, till, buyers, list(thing))], known)
            rows += len(known)
            others += len(numbers) ** (3 * len(buyers)) - len(known)
        self.assertTrue(rows > 300 and others > 5000, (rows, others))

    def test_rows_of_any_value(self):
        label, till = doc_label(), doc_till()
        good = [(1, 0, 1), (1, 1, 1)]
        self.assertIs(is_row(label, till, BUYERS, good), True)
        self.assertIs(is_row(label, till, BUYERS, [(0, 0, 1), (1, 1, 2)]), True)
        for thing in odd_values() + [
                [], tuple(good), good[:1], good + [(1, 1, 2)], good[::-1], [(1, 0, 1), (0, 1, 1)], [(1, 0, 1), (1, 0, 1)],
                [(1, 0, 1), (1, 1, 0)], [(1, 0, 1), (1, 1, 3)], [(1, 0, 0), (1, 1, 1)], [(2, 0, 1), (2, 1, 1)],
                [(True, 0, 1), (1, 1, 1)], [(1, False, 1), (1, 1, 1)], [(1, 0, True), (1, 1, 1)], [(1, 0, 1), (1, 1, True)],
                [[1, 0, 1], (1, 1, 1)], [(1, 0, 1), [1, 1, 1]], [(1, 0), (1, 1, 1)], [(1, 0, 1, 1), (1, 1, 1)],
                [(1, 0, 1), (1, 1, -1)], [(1, 0, "1"), (1, 1, 1)], [(1, 0, None), (1, 1, 1)], [None, None], [1, 2],
                ["101", "111"], [(1, 0, (1,)), (1, 1, 1)], [(10 ** 999, 0, 1), (1, 1, 1)], {(1, 0, 1): 0, (1, 1, 1): 1},
                [{1: 0}, {1: 1}], [b"\x01\x00\x01", b"\x01\x01\x01"]]:
            self.assertIs(is_row(label, till, BUYERS, thing), False, thing)
        for odd in odd_values():
            for thing in ([odd, (1, 1, 1)], [(1, 0, 1), odd], [(odd, 0, 1), (1, 1, 1)], [(1, 0, 1), (1, odd, 1)]):
                self.assertIs(is_row(label, till, BUYERS, thing), False)

    def test_rows_that_fall_in_one_number(self):
        # At 5 all of both lines can be seen, and of the book at the moment of a change both numbers.
        book = Book(1, [(4, 2), (5, 3)])
        label, till = Line(book, (0, 9)), Line(book, (0, 9))
        buyers = [(5, 5), (5, 5)]
        for ahead in product(range(3), range(3), (1, 2)):
            for behind in product(range(3), range(3), (1, 2)):
                known = all(number <= later for number, later in zip(ahead, behind))
                self.assertIs(is_row(label, till, buyers, [ahead, behind]), known)
        self.assertIs(is_row(label, till, buyers, [(0, 0, 0), (0, 0, 1)]), False)

    def test_sums_by_all_rows(self):
        sizes = {"greater": 0, "one": 0}
        for label, till, buyers in some_days(3, 60) + some_days(4, 150, 2):
            known = every_day_row(label, till, buyers)
            self.assertNotEqual(known, [])
            for rule, worth in KINDS:
                sums = [sum_by_hand(label, rule, worth, row) for row in known]
                self.assertEqual(greatest_sum(label, till, buyers, rule, worth), max(sums))
                self.assertEqual(least_sum(label, till, buyers, rule, worth), min(sums))
                self.assertEqual(greatest_row(label, till, buyers, rule, worth), known[sums.index(max(sums))])
                self.assertEqual(least_row(label, till, buyers, rule, worth), known[sums.index(min(sums))])
                sizes["greater" if max(sums) > min(sums) else "one"] += 1
        self.assertTrue(min(sizes.values()) > 100, sizes)

    def test_the_least_triples_of_each_buyer_need_not_fit_together(self):
        # The first one is charged 3 only by the label's showing it, the second one by itself also by the till's.
        book = Book(5, [(0, 3)])
        label, till, buyers = Line(book, (0, 9)), Line(book, (2, 9)), [(1, 1), (2, 2)]
        self.assertEqual([least_row(label, till, [buyer], "lower", "charged") for buyer in buyers],
                         [[(1, 0, 1)], [(0, 1, 1)]])
        self.assertEqual([least_row(label, till, buyers, "lower", "charged"), least_sum(label, till, buyers, "lower", "charged"),
                          greatest_row(label, till, buyers, "lower", "loss")], [[(1, 0, 1)] * 2, 6, [(1, 0, 1)] * 2])
        self.assertEqual([greatest_row(label, till, buyers, "lower", "charged"), greatest_sum(label, till, buyers, "till", "over")],
                         [[(0, 0, 1)] * 2, 4])

    def test_no_buyers(self):
        label, till = doc_label(), doc_till()
        for rule, worth in KINDS:
            self.assertEqual([greatest_sum(label, till, [], rule, worth), least_sum(label, till, [], rule, worth),
                              greatest_row(label, till, [], rule, worth), least_row(label, till, [], rule, worth)],
                             [0, 0, [], []])
        self.assertIs(is_row(label, till, [], []), True)
        for thing in odd_values() + [[()], [(0, 0, 0)], [[]]]:
            self.assertIs(is_row(label, till, [], thing), False)
        shown, asked = courses_of(label, till, [], [])
        self.assertEqual([label.is_course(shown), till.is_course(asked)], [True, True])

    def test_courses(self):
        for label, till, buyers in some_days(5, 60):
            for row in every_day_row(label, till, buyers)[:40]:
                found = courses_of(label, till, buyers, row)
                self.assertEqual([found.__class__, len(found)], [tuple, 2])
                shown, asked = found
                self.assertIs(label.is_course(shown), True)
                self.assertIs(till.is_course(asked), True)
                self.assertIsNot(shown, asked)
                for (looked, paid), (one, other, _) in zip(buyers, row):
                    self.assertTrue(shows(shown, one, looked) and shows(asked, other, paid))

    def test_eight_buyers_of_five_changes(self):
        book = Book(5, [(0, 1), (1, 9), (2, 3), (3, 7), (4, 0)])
        label, till = Line(book, (0, 6)), Line(book, (0, 5))
        buyers = [(4, 4)] * 3 + [(4, 5), (5, 5), (5, 5), (6, 7), (8, 9)]
        self.assertTrue(are_buyers(buyers))
        self.assertEqual(len(triples_at(label, till, (4, 4))), 72)
        for rule, worth in KINDS:
            for row, total in ((greatest_row(label, till, buyers, rule, worth), greatest_sum(label, till, buyers, rule, worth)),
                               (least_row(label, till, buyers, rule, worth), least_sum(label, till, buyers, rule, worth))):
                self.assertIs(is_row(label, till, buyers, row), True)
                self.assertEqual(sum_by_hand(label, rule, worth, row), total)
        # From 4 on the label can show 0, and up to 7 the till can ask 9, up to 9 it can ask 7.
        self.assertEqual([greatest_sum(label, till, buyers, "till", "over"), greatest_row(label, till, buyers, "till", "over")],
                         [7 * 9 + 7, [(5, 2, 4)] * 3 + [(5, 2, 5)] * 4 + [(5, 4, 5)]])

    def test_moved_and_scaled(self):
        for label, till, buyers in some_days(6, 40):
            for rule, worth in KINDS[::2]:
                sums = [call(label, till, buyers, rule, worth) for call in (greatest_sum, least_sum)]
                rows = [call(label, till, buyers, rule, worth) for call in (greatest_row, least_row)]
                courses = courses_of(label, till, buyers, rows[0])
                for by in (HUGE, -HUGE):
                    lines = moved_line(label, by), moved_line(till, by)
                    moved = [(looked + by, paid + by) for looked, paid in buyers]
                    self.assertEqual([call(*lines, moved, rule, worth) for call in (greatest_sum, least_sum)], sums)
                    self.assertEqual([call(*lines, moved, rule, worth) for call in (greatest_row, least_row)], rows)
                    self.assertEqual(courses_of(*lines, moved, rows[0]),
                                     tuple([moment + by for moment in course] for course in courses))
                lines = scaled_line(label, 7), scaled_line(till, 7)
                self.assertEqual([call(*lines, buyers, rule, worth) for call in (greatest_sum, least_sum)],
                                 [7 * found for found in sums])
                self.assertEqual([call(*lines, buyers, rule, worth) for call in (greatest_row, least_row)], rows)

    def test_great_numbers(self):
        book = Book(HUGE, [(-HUGE, HUGE - 1), (HUGE, HUGE)])
        label, till = Line(book, (0, HUGE)), Line(book, (HUGE, 2 * HUGE))
        buyers = [(-HUGE, 0), (0, HUGE), (HUGE, 2 * HUGE)]
        self.assertIs(are_buyers(buyers), True)
        self.assertEqual([triples_at(label, till, buyer) for buyer in buyers],
                         [[(0, 0, 1), (0, 1, 1), (1, 0, 1), (1, 1, 1)],
                          [(0, 0, 1), (0, 0, 2), (0, 1, 1), (0, 1, 2), (1, 0, 1), (1, 0, 2), (1, 1, 1), (1, 1, 2)],
                          [(1, 1, 2), (1, 2, 2), (2, 1, 2), (2, 2, 2)]])
        self.assertEqual([greatest_sum(label, till, buyers, "till", "charged"), least_sum(label, till, buyers, "till", "charged"),
                          greatest_sum(label, till, buyers, "till", "over")], [3 * HUGE, 3 * HUGE - 3, 3])
        self.assertEqual(greatest_row(label, till, buyers, "till", "over"), [(1, 0, 1), (1, 0, 1), (1, 2, 2)])

    def test_asked_by_turns(self):
        label, till = doc_label(), doc_till()
        second = [(10, 13), (21, 24)]
        for _ in range(3):
            row = greatest_row(label, till, BUYERS, "till", "over")
            others = [greatest_row(label, till, second, "till", "over"), greatest_row(till, label, BUYERS, "till", "over"),
                      least_row(label, till, BUYERS, "till", "loss")]
            self.assertEqual([row] + others, [[(1, 0, 1), (1, 1, 1)], [(1, 0, 1), (1, 2, 2)], [(0, 0, 1), (1, 2, 1)],
                                              [(0, 0, 1), (0, 1, 1)]])
            shown, asked = courses_of(label, till, BUYERS, row)
            shown.append(1)
            asked.clear()
            row.clear()
            others[0].append(None)
            triples_at(label, till, (14, 20)).clear()
            self.assertEqual(len(triples_at(label, till, (14, 20))), 4)
            self.assertEqual([greatest_sum(label, till, BUYERS, "till", "over"), least_sum(label, till, second, "till", "over")],
                             [50, -50])
            thing = [(1, 0, 1), (1, 1, 1)]
            self.assertIs(is_row(label, till, BUYERS, thing), True)
            sum_of(doc_book(), "till", "over", thing)
            self.assertEqual(thing, [(1, 0, 1), (1, 1, 1)])
        self.assertEqual([label, till, BUYERS, second], [doc_label(), doc_till(), [(11, 12), (14, 20)], [(10, 13), (21, 24)]])


if __name__ == "__main__":
    unittest.main()
