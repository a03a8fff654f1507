"""[31] Bands, and [7], with what [3], [4] and [12] say of them."""

import unittest

from helpers import HUGE, doc_book, doc_label, doc_till, moments_around, moved_line, numbers_shown, some_pairs
from labeltill.bands import band, band_back, cells, meets, moments_of, stretches_at
from labeltill.books import Book
from labeltill.lines import Line
from labeltill.visits import Visit


def shown_table(line, moments):
    return {moment: numbers_shown(line, moment) for moment in moments}


def meeting_moments(label, till, gap):
    """For each cell the moments around the lines at which the label can be looked at, by trying all courses."""
    moments = moments_around(label, till)
    at_label = shown_table(label, moments)
    at_till = shown_table(till, range(moments[0], moments[-1] + gap[1] + 1))
    found = {}
    for moment in moments:
        for number in at_label[moment]:
            for wait in range(gap[0], gap[1] + 1):
                for other in at_till[moment + wait]:
                    found.setdefault((number, other), set()).add(moment)
    return moments, found


class BandsTest(unittest.TestCase):
    def test_of_the_document(self):
        label, till = doc_label(), doc_till()
        self.assertEqual(band(label, till, (0, 3)), [(0, 1), (0, 2), (1, 2)])
        self.assertEqual(cells(label, till, (0, 0)), [(0, 0), (0, 1), (1, 0), (1, 1), (1, 2), (2, 1), (2, 2)])
        self.assertEqual(moments_of(label, 1, till, 0, (0, 3)), (10, 14))
        self.assertEqual(stretches_at(label, till, 12, 1), ((0, 1), (0, 1)))
        self.assertEqual(stretches_at(label, till, 12, 0), ((0, 1), (0, 0)))

    def test_all_cells(self):
        for label, till, gap in some_pairs(1, 80):
            moments, found = meeting_moments(label, till, gap)
            many = range(len(label.book))
            self.assertEqual(cells(label, till, gap), sorted(found))
            for number in many:
                for other in many:
                    self.assertIs(meets(label, number, till, other, gap), (number, other) in found)
                    self.check_moments(moments_of(label, number, till, other, gap), found.get((number, other)), moments)

    def check_moments(self, span, known, moments):
        if known is None:
            self.assertIsNone(span)
            return
        self.assertIs(span.__class__, tuple)
        # All moments between will do; at the edge of the range tried there is no bound.
        self.assertEqual(sorted(known), list(range(min(known), max(known) + 1)))
        self.assertEqual(span[0], None if min(known) == moments[0] else min(known))
        self.assertEqual(span[1], None if max(known) == moments[-1] else max(known))

    def test_bands_and_back(self):
        for label, till, gap in some_pairs(2, 80, 3):
            _, found = meeting_moments(label, till, gap)
            many = range(len(label.book))
            ahead = [sorted(other for one, other in found if one == number) for number in many]
            back = [sorted(one for one, other in found if other == number) for number in many]
            self.assertEqual(band(label, till, gap), [(row[0], row[-1]) for row in ahead])
            self.assertEqual(band_back(label, till, gap), [(row[0], row[-1]) for row in back])
            for rows in (ahead, back):
                for row in rows:
                    self.assertEqual(row, list(range(row[0], row[-1] + 1)))
            for rows in (band(label, till, gap), band_back(label, till, gap)):
                for one, other in zip(rows, rows[1:]):
                    self.assertTrue(one[0] <= other[0] and one[1] <= other[1])

    def test_the_same_as_visits(self):
        for label, till, gap in some_pairs(3, 40):
            visit = Visit([label, till], [0, 1], [gap])
            for number, row in enumerate(band(label, till, gap)):
                self.assertEqual(visit.numbers_at([number, None], 1), row)
            for other, row in enumerate(band_back(label, till, gap)):
                self.assertEqual(visit.numbers_at([None, other], 0), row)
            for number in range(len(label.book)):
                for other in range(len(label.book)):
                    self.assertIs(meets(label, number, till, other, gap), visit.can_be([number, other]))

    def test_equal_label_and_till_are_two_boards(self):
        line = Line(Book(1, [(0, 2)]), (0, 5))
        self.assertEqual(cells(line, line, (0, 0)), [(0, 0), (0, 1), (1, 0), (1, 1)])
        self.assertEqual(cells(line, line, (5, 5)), [(0, 0), (0, 1), (1, 0), (1, 1)])
        self.assertEqual(cells(line, line, (6, 6)), [(0, 0), (0, 1), (1, 1)])
        self.assertEqual(moments_of(line, 1, line, 0, (5, 9)), (0, 0))
        self.assertEqual(moments_of(line, 1, line, 0, (0, 2)), (0, 5))
        self.assertIsNone(moments_of(line, 1, line, 0, (6, 9)))

    def test_ends_without_bound(self):
        line = Line(Book(5), (1, 2))
        self.assertEqual(moments_of(line, 0, line, 0, (0, 3)), (None, None))
        self.assertEqual([band(line, line, (0, 3)), band_back(line, line, (0, 0))], [[(0, 0)], [(0, 0)]])
        label, till = doc_label(), doc_till()
        self.assertEqual(moments_of(label, 0, till, 0, (0, 3)), (None, 14))
        self.assertEqual(moments_of(label, 2, till, 2, (0, 3)), (20, None))
        self.assertEqual(moments_of(label, 0, till, 2, (0, 7)), (14, 14))
        self.assertIsNone(moments_of(label, 0, till, 2, (0, 6)))

    def test_great_gaps(self):
        label, till = doc_label(), doc_till()
        self.assertEqual(cells(label, till, (0, HUGE)), [(0, 0), (0, 1), (0, 2), (1, 0), (1, 1), (1, 2), (2, 1), (2, 2)])
        self.assertEqual(cells(label, till, (HUGE, HUGE)), [(0, 0), (0, 1), (0, 2), (1, 2), (2, 2)])
        self.assertEqual(moments_of(label, 0, till, 1, (HUGE, HUGE)), (13 - HUGE, 22 - HUGE))
        self.assertEqual(moments_of(label, 0, till, 1, (0, HUGE)), (13 - HUGE, 14))
        self.assertEqual(band(label, till, (HUGE, HUGE)), [(0, 2), (2, 2), (2, 2)])
        self.assertEqual(band_back(label, till, (HUGE, HUGE)), [(0, 0), (0, 0), (0, 2)])

    def test_great_numbers(self):
        book = Book(HUGE, [(-HUGE, 1), (HUGE, 2)])
        label, till = Line(book, (0, HUGE)), Line(book, (HUGE, HUGE))
        self.assertEqual(stretches_at(label, till, -HUGE, HUGE), ((0, 1), (0, 1)))
        self.assertEqual(stretches_at(label, till, -HUGE, HUGE - 1), ((0, 1), (0, 0)))
        self.assertEqual(band(label, till, (0, HUGE)), [(0, 1), (0, 2), (1, 2)])
        self.assertEqual(moments_of(label, 1, till, 0, (0, HUGE)), (-HUGE, 0))
        self.assertEqual(moments_of(label, 2, till, 1, (HUGE, HUGE)), (HUGE, HUGE))

    def test_stretches(self):
        for label, till, _ in some_pairs(4, 30):
            for moment in moments_around(label, till):
                for wait in (0, 1, 4, HUGE):
                    self.assertEqual(stretches_at(label, till, moment, wait),
                                     (label.stretch(moment), till.stretch(moment + wait)))

    def test_moved_by_one_integer(self):
        for label, till, gap in some_pairs(5, 30):
            by = -9
            one, other = moved_line(label, by), moved_line(till, by)
            self.assertEqual(cells(one, other, gap), cells(label, till, gap))
            self.assertEqual(band(one, other, gap), band(label, till, gap))
            self.assertEqual(band_back(one, other, gap), band_back(label, till, gap))
            for number, place in cells(label, till, gap):
                span = moments_of(label, number, till, place, gap)
                moved = tuple(None if bound is None else bound + by for bound in span)
                self.assertEqual(moments_of(one, number, other, place, gap), moved)

    def test_nothing_is_changed(self):
        label, till, other = doc_label(), doc_till(), Line(Book(1, [(0, 2)]), (0, 5))
        expected = [(0, 1), (0, 2), (1, 2)]
        for _ in range(2):
            answer = band(label, till, (0, 3))
            self.assertEqual(answer, expected)
            answer.clear()
            self.assertEqual(cells(other, other, (6, 6)), [(0, 0), (0, 1), (1, 1)])
            back = band_back(label, till, (0, 3))
            self.assertEqual(back, [(0, 1), (0, 2), (1, 2)])
            back.append(None)
            pairs = cells(label, till, (0, 0))
            self.assertEqual(len(pairs), 7)
            pairs.pop()
        self.assertEqual([label, till], [doc_label(), doc_till()])
        self.assertEqual(label.book, doc_book())

    def test_kinds_of_results(self):
        label, till = doc_label(), doc_till()
        for answer in (band(label, till, (0, 3)), band_back(label, till, (0, 3)), cells(label, till, (0, 3))):
            self.assertIs(answer.__class__, list)
            self.assertEqual({row.__class__ for row in answer}, {tuple})
        self.assertEqual([part.__class__ for part in stretches_at(label, till, 5, 5)], [tuple, tuple])


if __name__ == "__main__":
    unittest.main()
