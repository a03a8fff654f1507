"""[81] Tables of a day, with what [3], [4], [11] and [12] say of them."""

import unittest
from itertools import product

from helpers import HUGE, Case, doc_label, doc_till, moved_line, odd_values, scaled_line
from labeltill.books import Book
from labeltill.days import greatest_sum, least_sum, triples_at
from labeltill.lines import Line
from labeltill.tables import is_lower_table, is_upper_table, lower_table, upper_table
from test_days import BUYERS, KINDS, brought, some_days


def never_falls(triple, later):
    return all(number <= other for number, other in zip(triple, later))


def bounds(label, buyers, rule, worth, tables, sign):
    """Whether each integer of tables is at least (sign 1) or at most (sign -1) what the definition says."""
    for index, table in enumerate(tables):
        for triple, bound in table.items():
            worth_here = brought(label.book.prices(), rule, worth, triple)
            rest = [0]
            if index + 1 < len(tables):
                rest = [more for later, more in tables[index + 1].items() if never_falls(triple, later)]
            if any(sign * bound < sign * (worth_here + more) for more in rest):
                return False
    return True


def changed(tables, index, triple, by):
    """A copy of tables of which one integer is another one."""
    copied = [dict(table) for table in tables]
    copied[index][triple] += by
    return copied


class TablesTest(Case):
    def test_of_the_document(self):
        label, till = doc_label(), doc_till()
        self.assertIs(is_upper_table(label, till, BUYERS, "till", "over", upper_table(label, till, BUYERS, "till", "over")), True)

    def test_of_two_buyers(self):
        # The first buyer can see 300 and 250 and is asked 300; the second one can see both, and is asked 250.
        label, till = doc_label(), doc_till()
        self.assertEqual(upper_table(label, till, BUYERS, "till", "over"), [
            {(0, 0, 1): 0, (1, 0, 1): 50}, {(0, 1, 1): -50, (0, 1, 2): -50, (1, 1, 1): 0, (1, 1, 2): 0}])
        self.assertEqual(lower_table(label, till, BUYERS, "till", "over"), [
            {(0, 0, 1): -50, (1, 0, 1): 50}, {(0, 1, 1): -50, (0, 1, 2): -50, (1, 1, 1): 0, (1, 1, 2): 0}])

    def test_tables_that_are_made(self):
        for label, till, buyers in some_days(11, 120):
            for rule, worth in KINDS:
                upper = upper_table(label, till, buyers, rule, worth)
                lower = lower_table(label, till, buyers, rule, worth)
                for found in (upper, lower):
                    self.assertEqual([found.__class__, len(found)], [list, len(buyers)])
                    for table, buyer in zip(found, buyers):
                        self.assertIs(table.__class__, dict)
                        # Its keys are ascending.
                        self.assertEqual(list(table), triples_at(label, till, buyer))
                self.assertTrue(bounds(label, buyers, rule, worth, upper, 1))
                self.assertTrue(bounds(label, buyers, rule, worth, lower, -1))
                self.assertIs(is_upper_table(label, till, buyers, rule, worth, upper), True)
                self.assertIs(is_lower_table(label, till, buyers, rule, worth, lower), True)

    def test_no_integer_can_be_less_or_more(self):
        tried = 0
        for label, till, buyers in some_days(12, 60):
            for rule, worth in KINDS[::2]:
                upper = upper_table(label, till, buyers, rule, worth)
                lower = lower_table(label, till, buyers, rule, worth)
                for index, table in enumerate(upper):
                    for triple in table:
                        less, more = changed(upper, index, triple, -1), changed(lower, index, triple, 1)
                        self.assertIs(is_upper_table(label, till, buyers, rule, worth, less), False)
                        self.assertIs(is_lower_table(label, till, buyers, rule, worth, more), False)
                        tried += 1
        self.assertTrue(tried > 500)

    def test_one_more_or_less_at_each_triple(self):
        kinds = {True: 0, False: 0}
        for label, till, buyers in some_days(13, 60):
            for rule, worth in KINDS[1::2]:
                for table, sign, call in ((upper_table, 1, is_upper_table), (lower_table, -1, is_lower_table)):
                    tables = table(label, till, buyers, rule, worth)
                    for index, triples in enumerate(tables):
                        for triple, by in product(triples, (-2, 3)):
                            thing = changed(tables, index, triple, by)
                            known = bounds(label, buyers, rule, worth, thing, sign)
                            self.assertIs(call(label, till, buyers, rule, worth, thing), known)
                            kinds[known] += 1
        self.assertTrue(min(kinds.values()) > 100, kinds)

    def test_one_kind_is_not_the_other(self):
        label, till = doc_label(), doc_till()
        upper, lower = upper_table(label, till, BUYERS, "till", "over"), lower_table(label, till, BUYERS, "till", "over")
        self.assertIs(is_lower_table(label, till, BUYERS, "till", "over", upper), False)
        self.assertIs(is_upper_table(label, till, BUYERS, "till", "over", lower), False)
        above = [{triple: bound + 500 * (2 - index) for triple, bound in table.items()} for index, table in enumerate(upper)]
        below = [{triple: bound - 500 * (2 - index) for triple, bound in table.items()} for index, table in enumerate(lower)]
        self.assertEqual([is_upper_table(label, till, BUYERS, "till", "over", thing) for thing in (above, below)], [True, False])
        self.assertEqual([is_lower_table(label, till, BUYERS, "till", "over", thing) for thing in (above, below)], [False, True])
        for rule, worth in (("till", "charged"), ("shown", "over"), ("lower", "over")):
            self.assertIs(is_upper_table(label, till, BUYERS, rule, worth, upper),
                          bounds(label, BUYERS, rule, worth, upper, 1))

    def test_bounds_of_all_rows(self):
        for label, till, buyers in some_days(14, 100):
            for rule, worth in KINDS:
                upper = upper_table(label, till, buyers, rule, worth)
                lower = lower_table(label, till, buyers, rule, worth)
                greatest, least = (max(upper[0].values()), min(lower[0].values())) if buyers else (0, 0)
                self.assertEqual([greatest_sum(label, till, buyers, rule, worth), least_sum(label, till, buyers, rule, worth)],
                                 [greatest, least])

    def test_no_buyers(self):
        label, till = doc_label(), doc_till()
        for rule, worth in KINDS:
            self.assertEqual([upper_table(label, till, [], rule, worth), lower_table(label, till, [], rule, worth)], [[], []])
            for call in (is_upper_table, is_lower_table):
                self.assertIs(call(label, till, [], rule, worth, []), True)
                for thing in odd_values() + [[{}], [None], [[]]]:
                    self.assertIs(call(label, till, [], rule, worth, thing), False)

    def test_of_any_value(self):
        label, till = doc_label(), doc_till()
        for table, call in ((upper_table, is_upper_table), (lower_table, is_lower_table)):
            good = table(label, till, BUYERS, "till", "over")
            first, second = good
            self.assertIs(call(label, till, BUYERS, "till", "over", good), True)
            # The order of the keys means nothing.
            turned = [{key: table[key] for key in list(table)[::-1]} for table in good]
            self.assertIs(call(label, till, BUYERS, "till", "over", turned), True)
            missing, further = dict(second), dict(second)
            del missing[(1, 1, 2)]
            further[(1, 2, 2)] = 0
            listed = [list(table.items()) for table in good]
            for thing in odd_values() + [
                    [], tuple(good), good[:1], good[1:], good + [{}], good + [second], good[::-1], [first, missing],
                    [first, further], [{}, {}], [first, None], [None, second], [first, []], listed, [first, listed[1]],
                    [list(first), list(second)], {0: first, 1: second}, [first, tuple(second.items())],
                    [first, {**missing, (1, 1, 3): 0}], [first, {**missing, (1, 2): 0}], [first, {**missing, 0: 0}],
                    [first, {**missing, None: 0}], [first, {**missing, "112": 0}], [first, {**missing, (1, 1, "2"): 0}],
                    [first, {**missing, (1, 1, 2, 2): 0}], [first, {**missing, frozenset((1, 2)): 0}],
                    [first, {**missing, (1, 1, 10 ** 999): 0}], [first, {**missing, ((1, 1, 2),): 0}]]:
                self.assertIs(call(label, till, BUYERS, "till", "over", thing), False, thing)
            for odd in odd_values():
                if odd not in (-1, -HUGE) or isinstance(odd, bool):
                    self.assertIs(call(label, till, BUYERS, "till", "over", [first, {**second, (1, 1, 1): odd}]), False)
                self.assertIs(call(label, till, BUYERS, "till", "over", [odd, second]), False)
                self.assertIs(call(label, till, BUYERS, "till", "over", [first, odd]), False)

    def test_truths_as_integers_and_as_numbers(self):
        label, till = doc_label(), doc_till()
        good = [{(0, 0, 1): 0, (1, 0, 1): 0}]
        buyers = BUYERS[:1]
        self.assertEqual(upper_table(label, till, buyers, "shown", "over"), good)
        for call in (is_upper_table, is_lower_table):
            self.assertIs(call(label, till, buyers, "shown", "over", good), True)
            for thing in ([{(0, 0, 1): False, (1, 0, 1): 0}], [{(False, 0, 1): 0, (1, 0, 1): 0}],
                          [{(0, 0, True): 0, (1, 0, 1): 0}], [{(0, 0, 1): 0, (True, 0, 1): 0}]):
                self.assertEqual(thing, good)
                self.assertIs(call(label, till, buyers, "shown", "over", thing), False)

    def test_eight_buyers_of_five_changes(self):
        label = Line(Book(5, [(0, 1), (1, 9), (2, 3), (3, 7), (4, 0)]), (0, 6))
        buyers = [(4, 4)] * 8
        for rule, worth in (("till", "over"), ("lower", "loss")):
            upper, lower = upper_table(label, label, buyers, rule, worth), lower_table(label, label, buyers, rule, worth)
            self.assertEqual([len(table) for table in upper + lower], [72] * 16)
            self.assertTrue(bounds(label, buyers, rule, worth, upper, 1) and bounds(label, buyers, rule, worth, lower, -1))
            self.assertIs(is_upper_table(label, label, buyers, rule, worth, upper), True)
            self.assertIs(is_lower_table(label, label, buyers, rule, worth, lower), True)
            for index, triple in ((0, (0, 0, 4)), (3, (5, 5, 5)), (7, (2, 0, 4))):
                self.assertIs(is_upper_table(label, label, buyers, rule, worth, changed(upper, index, triple, -1)), False)
                self.assertIs(is_lower_table(label, label, buyers, rule, worth, changed(lower, index, triple, 1)), False)

    def test_moved_and_scaled(self):
        for label, till, buyers in some_days(15, 30):
            for rule, worth in KINDS[::2]:
                for call in (upper_table, lower_table):
                    known = call(label, till, buyers, rule, worth)
                    for by in (HUGE, -HUGE):
                        moved = [(looked + by, paid + by) for looked, paid in buyers]
                        self.assertEqual(call(moved_line(label, by), moved_line(till, by), moved, rule, worth), known)
                    self.assertEqual(call(scaled_line(label, 7), scaled_line(till, 7), buyers, rule, worth),
                                     [{triple: 7 * bound for triple, bound in table.items()} for table in known])

    def test_great_numbers(self):
        book = Book(HUGE, [(-HUGE, HUGE - 1), (HUGE, 0)])
        label, till = Line(book, (0, HUGE)), Line(book, (2 * HUGE, 2 * HUGE))
        buyers = [(0, HUGE), (2 * HUGE, 3 * HUGE)]
        upper = upper_table(label, till, buyers, "till", "over")
        self.assertEqual(upper, [{(0, 0, 1): HUGE - 1, (0, 0, 2): HUGE - 1, (0, 1, 1): HUGE - 2, (0, 1, 2): HUGE - 2,
                                  (1, 0, 1): HUGE, (1, 0, 2): HUGE, (1, 1, 1): HUGE - 1, (1, 1, 2): HUGE - 1},
                                 {(1, 1, 2): 0, (1, 2, 2): 1 - HUGE, (2, 1, 2): HUGE - 1, (2, 2, 2): 0}])
        self.assertIs(is_upper_table(label, till, buyers, "till", "over", upper), True)
        self.assertIs(is_upper_table(label, till, buyers, "till", "over", changed(upper, 1, (2, 1, 2), 1)), False)
        self.assertIs(is_upper_table(label, till, buyers, "till", "over", changed(upper, 0, (0, 0, 1), 10 ** 999)), True)

    def test_asked_by_turns(self):
        label, till = doc_label(), doc_till()
        for _ in range(3):
            upper, lower = upper_table(label, till, BUYERS, "till", "over"), lower_table(label, till, BUYERS, "till", "over")
            other = upper_table(till, label, BUYERS, "till", "over")
            self.assertEqual([upper[0][(0, 0, 1)], lower[0][(0, 0, 1)], other[0][(0, 0, 1)]], [0, -50, 150])
            self.assertEqual(len({id(table) for table in upper + lower + other}), 6)
            copied = [dict(table) for table in upper]
            self.assertIs(is_upper_table(label, till, BUYERS, "till", "over", upper), True)
            self.assertEqual(upper, copied)
            upper[0].clear()
            upper[1][(0, 1, 1)] = 99
            lower.clear()
            other.append({})
        self.assertEqual([label, till, BUYERS], [doc_label(), doc_till(), [(11, 12), (14, 20)]])

    def test_equal_buyers_have_tables_of_their_own(self):
        label, till = doc_label(), doc_till()
        found = upper_table(label, till, [(5, 5)] * 3, "shown", "over")
        self.assertEqual(found, [{(0, 0, 0): 0}] * 3)
        found[0][(0, 0, 0)] = 1
        self.assertEqual(found[1:], [{(0, 0, 0): 0}] * 2)
        same = {(0, 0, 0): 0}
        self.assertIs(is_upper_table(label, till, [(5, 5)] * 3, "shown", "over", [same, same, same]), True)


if __name__ == "__main__":
    unittest.main()
