"""Spans, on which the windows, the bands and the stretches of moments rest."""

import unittest
from itertools import product

from labeltill.spans import (EVER, ahead_of, behind, first_common, is_within, least_wait, overlap, some_moment,
                             taken_over, united, window_of)

BOUNDS = [None, 0, 1, 2, 3, 4, 5]
SPANS = [(begin, end) for begin in BOUNDS for end in BOUNDS if begin is None or end is None or begin <= end]
MOMENTS = range(-3, 9)


def held(span):
    """The moments of a span within a range that is wider than all bounds tried."""
    begin, end = span
    return [moment for moment in MOMENTS if (begin is None or begin <= moment) and (end is None or moment <= end)]


class SpansTest(unittest.TestCase):
    def test_is_within(self):
        for span in SPANS:
            for moment in MOMENTS:
                self.assertIs(is_within(span, moment), moment in held(span))

    def test_overlap(self):
        for one, other in product(SPANS, SPANS):
            known = [moment for moment in held(one) if moment in held(other)]
            found = overlap(one, other)
            self.assertEqual([] if found is None else held(found), known)
        self.assertEqual(overlap(EVER, EVER), (None, None))

    def test_behind_and_ahead_of(self):
        for span in SPANS:
            for gap in ((0, 0), (0, 2), (1, 3), (2, 2)):
                begin, end = span
                self.assertEqual(behind(span, gap), (None if begin is None else begin + gap[0],
                                                     None if end is None else end + gap[1]))
                self.assertEqual(ahead_of(span, gap), (None if begin is None else begin - gap[1],
                                                       None if end is None else end - gap[0]))

    def test_a_gap_without_end(self):
        for span in SPANS:
            for least in (0, 2):
                begin, end = span
                self.assertEqual(behind(span, (least, None)), (None if begin is None else begin + least, None))
                self.assertEqual(ahead_of(span, (least, None)), (None, None if end is None else end - least))

    def test_window_of(self):
        self.assertEqual(window_of((), (1, 2), 0), (None, None))
        self.assertEqual([window_of([3, 5], (1, 4), number) for number in range(3)], [(None, 7), (4, 9), (6, None)])

    def test_first_common(self):
        lists = [[], [EVER]] + [united([one, other]) for one, other in product(SPANS[::2], SPANS[1::3])]
        for ones, others in product(lists, lists):
            for first in (-2, 0, 3, 6):
                known = [moment for moment in range(first, 9) if any(moment in held(span) for span in ones)
                         and any(moment in held(span) for span in others)]
                self.assertEqual(first_common(ones, others, first), known[0] if known else None)
        three = [(None, -9), (0, 1), (4, 5), (9, None)]
        for first, known in ((-30, -30), (-9, -9), (-8, 1), (2, 4), (5, 9), (6, 9), (40, 40)):
            self.assertEqual(first_common(three, [(None, -9), (1, 4), (7, None)], first), known)

    def test_some_moment_and_least_wait(self):
        for span in SPANS:
            self.assertIn(some_moment(span, 2), held(span))
            for moment in MOMENTS:
                waits = [wait for wait in range(1, 5) if moment + wait in held(span)]
                if waits:
                    self.assertEqual(least_wait(moment, span, (1, 4)), waits[0])
        self.assertEqual(some_moment(EVER, 99), 99)

    def test_united(self):
        for many in (0, 1, 2):
            for spans in product(SPANS, repeat=many):
                self.check_united(list(spans))
        for spans in product(SPANS[::3], repeat=3):
            self.check_united(list(spans))

    def check_united(self, spans):
        passed = list(spans)
        found = united(spans)
        self.assertEqual(spans, passed)
        known = sorted({moment for span in spans for moment in held(span)})
        self.assertEqual([moment for span in found for moment in held(span)], known)
        for (_, end), (begin, _) in zip(found, found[1:]):
            self.assertLess(end + 1, begin)

    def test_taken_over(self):
        self.assertEqual(taken_over([], 5), (0, 0))
        self.assertEqual([taken_over([1, 3, 3], moment) for moment in range(5)], [(0, 0), (0, 1), (1, 1), (1, 3), (3, 3)])


if __name__ == "__main__":
    unittest.main()
