"""[21] What tells whether any value is of a kind."""

import unittest

from helpers import HUGE, nested, odd_values
from labeltill.books import Book
from labeltill.kinds import is_board, is_change, is_index, is_integer, is_price

INTEGERS = [0, 1, -1, 7, HUGE, -HUGE, 10 ** 999, -(10 ** 999)]
NO_INTEGERS = [True, False, None, "0", "7", b"0", (), (0,), [], [0], {}, {0: 1}, {0}, nested(15), Book(0), int, object()]


class KindsTest(unittest.TestCase):
    def check(self, answer, expected, thing):
        self.assertIs(answer, expected, repr(thing)[:60])

    def test_integers(self):
        for thing in INTEGERS:
            self.check(is_integer(thing), True, thing)
        for thing in NO_INTEGERS:
            self.check(is_integer(thing), False, thing)

    def test_prices(self):
        for thing in INTEGERS:
            self.check(is_price(thing), thing >= 0, thing)
        for thing in NO_INTEGERS:
            self.check(is_price(thing), False, thing)

    def test_indexes(self):
        for many in (0, 1, 5, HUGE):
            for thing in INTEGERS:
                self.check(is_index(thing, many), thing >= 0 and thing < many, (thing, many))
            for thing in NO_INTEGERS:
                self.check(is_index(thing, many), False, (thing, many))
        self.check(is_index(4, 5), True, 4)
        self.check(is_index(5, 5), False, 5)

    def test_boards(self):
        for thing in ((0, 0), (0, 1), (3, 3), (0, HUGE), (HUGE, HUGE), (10 ** 998, 10 ** 999)):
            self.check(is_board(thing), True, thing)
        for thing in ((1, 0), (-1, 0), (-2, -1), (-1, 5), (), (0,), (0, 0, 0), (0, 1, 2), [0, 0], [0, 1], "01", b"01",
                      {0: 0, 1: 1}, {0, 1}, ((0, 0), (0, 0)), 0, None, True):
            self.check(is_board(thing), False, thing)
        for odd in odd_values():
            self.check(is_board((0, odd)), False, odd)
            self.check(is_board((odd, 5)), False, odd)
            self.check(is_board(odd), False, odd)

    def test_changes(self):
        for thing in ((0, 0), (1, 0), (-5, 3), (-HUGE, HUGE), (10 ** 999, 10 ** 999)):
            self.check(is_change(thing), True, thing)
        for thing in ((0, -1), (-1, -1), (), (0,), (0, 0, 0), [0, 0], [1, 2], "12", b"12", {0: 0, 1: 1}, 0, None):
            self.check(is_change(thing), False, thing)
        for odd in odd_values():
            self.check(is_change((0, odd)), False, odd)
            self.check(is_change(odd), False, odd)
        for thing in NO_INTEGERS:
            self.check(is_change((thing, 0)), False, thing)
            self.check(is_change((0, thing)), False, thing)


if __name__ == "__main__":
    unittest.main()
