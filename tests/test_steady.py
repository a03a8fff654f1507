"""[71] Steady lines, with what [3], [4] and [12] say of them."""

import unittest
from random import Random

from helpers import HUGE, Case, doc_label, moved_line, scaled_line, shown_numbers, some_book, some_line
from labeltill.books import Book
from labeltill.lines import Line
from labeltill.steady import fits_steady, latenesses, parting_moment, steady_prices
from test_sightings import rows_in

# All moments of the small lines and of their sightings lie between these two, and so no lateness beyond counts.
FIRST, LAST = -3, 14
MOST = 2 * (LAST - FIRST)


def some_settings(seed, many, most=3):
    """Tuples of a small line and of sightings, most of which some lateness fits."""
    random = Random(seed)
    found = []
    for _ in range(many):
        book = some_book(random, random.randint(0, 4))
        if random.random() < 0.5:
            # Of two prices by turns, so that the same one comes again and again.
            moments = sorted(random.sample(range(10), random.randint(2, 5)))
            book = Book(0, [(moment, (index + 1) % 2) for index, moment in enumerate(moments)])
        line = some_line(random, book, 2)
        late = random.randint(0, 5)
        course = [moment + late for moment in line.sent()]
        sightings = []
        for moment in sorted(random.randint(FIRST, LAST) for _ in range(random.randint(0, most))):
            number = random.choice(shown_numbers(course, moment))
            sightings.append((moment, random.choice([line.book[number]] * 9 + [random.randint(0, 4)])))
        found.append((line, sightings))
    return found


def fits(line, sightings, late):
    """Whether a lateness fits, by its only course."""
    return rows_in([moment + late for moment in line.sent()], line, sightings) != []


def prices_with(line, late, moment):
    """The prices that are shown at a moment with one lateness."""
    return {line.book[number] for number in shown_numbers([sent + late for sent in line.sent()], moment)}


def is_parted(line, fitting, moment):
    known = [prices_with(line, late, moment) for late in fitting]
    return any(not one & other for one in known for other in known)


class SteadyTest(Case):
    def test_of_the_document(self):
        label = doc_label()
        self.assertEqual([latenesses(label, [(12, 250)]), steady_prices(label, [(12, 250)], 21),
                          parting_moment(label, [(12, 250)], 0)], [[(0, 2)], [250, 400], 11])

    def test_at_just_the_lateness(self):
        # The change at 10 is taken over at 12 by a lateness of 2, that at 20 is at 25 by one of 5.
        label = doc_label()
        for late, known in ((0, (True, False, True)), (1, (True, False, True)), (2, (True, True, True)),
                            (3, (False, True, True)), (4, (False, True, True)), (5, (False, True, True)),
                            (6, (False, True, False)), (HUGE, (False, True, False))):
            self.assertEqual((fits_steady(label, [(12, 250)], late), fits_steady(label, [(12, 300)], late),
                              fits_steady(label, [(25, 400)], late)), known)
        self.assertEqual([latenesses(label, [(12, 250)]), latenesses(label, [(12, 300)]), latenesses(label, [(25, 400)])],
                         [[(0, 2)], [(2, None)], [(0, 5)]])
        self.assertEqual(latenesses(label, [(25, 250)]), [(5, 15)])
        self.assertEqual([latenesses(label, [(25, 250), (26, 400)]), latenesses(label, [(25, 250), (27, 400), (27, 400)]),
                          latenesses(label, [(26, 250), (26, 400)]), latenesses(label, [(26, 400), (26, 250)])],
                         [[(5, 6)], [(5, 7)], [(6, 6)], []])

    def test_the_board_means_nothing(self):
        for board in ((0, 0), (3, 3), (2, HUGE)):
            line = Line(doc_label().book, board)
            self.assertIs(fits_steady(line, [(12, 250)], 2), True)
            self.assertEqual([latenesses(line, [(12, 250)]), steady_prices(line, [(12, 250)], 21),
                              parting_moment(line, [(12, 250)], 0)], [[(0, 2)], [250, 400], 11])

    def test_the_moments_of_sending_count(self):
        line = Line(doc_label().book, (0, 0), [12, 30])
        self.assertEqual([latenesses(line, [(12, 250)]), latenesses(line, [(33, 250)])], [[(0, 0)], [(3, 21)]])
        self.assertEqual([steady_prices(line, [(33, 250)], 14), parting_moment(line, [(33, 250)], 0)], [[300], 16])
        # Two that are sent together are taken over at one moment, at which the price between is shown, too.
        line = Line(doc_label().book, (0, 0), [20, 20])
        self.assertEqual([latenesses(line, [(25, 250)]), latenesses(line, [(25, 300), (25, 250), (25, 400)])],
                         [[(5, 5)], [(5, 5)]])
        self.assertEqual([steady_prices(line, [], 20), steady_prices(line, [(25, 250)], 25)],
                         [[250, 300, 400], [250, 300, 400]])

    def test_fits_by_its_only_course(self):
        for line, sightings in some_settings(1, 150):
            for late in range(MOST):
                self.assertIs(fits_steady(line, sightings, late), fits(line, sightings, late))

    def test_latenesses_by_trying_all(self):
        kinds = {"none": 0, "several": 0, "end": 0, "no end": 0}
        for line, sightings in some_settings(2, 400) + some_settings(3, 60, 10):
            known = [late for late in range(MOST) if fits(line, sightings, late)]
            found = latenesses(line, sightings)
            self.assertEqual([late for late in range(MOST)
                              if any(low <= late and (high is None or late <= high) for low, high in found)], known)
            self.assertEqual(known != [] and found[-1][1] is None, MOST - 1 in known)
            for low, high in found[:-1]:
                self.assertIsNotNone(high)
            for (_, high), (low, _) in zip(found, found[1:]):
                self.assertLess(high + 1, low)
            self.assertTrue(all(high is None or 0 <= low <= high for low, high in found))
            kinds["none"] += not found
            kinds["several"] += len(found) > 1
            kinds["end"] += bool(found) and found[-1][1] is not None
            kinds["no end"] += bool(found) and found[-1][1] is None
        self.assertTrue(min(kinds.values()) > 10, kinds)

    def test_spans_that_touch_are_one(self):
        # At 10 the lateness 0 shows both, 1 and more the first price; at 9 none shows the second one.
        line = Line(Book(1, [(10, 2), (11, 1), (13, 1), (14, 5)]), (0, 0))
        self.assertEqual(latenesses(line, [(14, 1)]), [(0, None)])
        self.assertEqual(latenesses(line, [(20, 1)]), [(6, None)])
        self.assertEqual(latenesses(line, [(20, 2)]), [(9, 10)])
        twice = Line(Book(1, [(10, 2), (12, 1), (14, 2)]), (0, 0))
        self.assertEqual([latenesses(twice, [(20, 1)]), latenesses(twice, [(20, 2)])], [[(6, 8), (10, None)],
                                                                                     [(0, 6), (8, 10)]])

    def test_prices_by_trying_all(self):
        for line, sightings in some_settings(4, 150):
            known = [late for late in range(MOST) if fits(line, sightings, late)]
            for moment in range(FIRST - 2, LAST + 3):
                prices = {price for late in known for price in prices_with(line, late, moment)}
                self.assertEqual(steady_prices(line, sightings, moment), sorted(prices))

    def test_what_was_seen_does_not_narrow_the_prices_of_its_moment(self):
        label = doc_label()
        self.assertEqual([steady_prices(label, [(12, 250)], 12), steady_prices(label, [(10, 300), (10, 250)], 10)],
                         [[250, 300], [250, 300]])
        self.assertEqual([steady_prices(label, [(10, 250)], 20), steady_prices(label, [(10, 250)], 21)], [[250, 400], [400]])

    def test_without_sightings(self):
        label = doc_label()
        self.assertEqual(latenesses(label, []), [(0, None)])
        self.assertEqual([steady_prices(label, [], moment) for moment in (9, 10, 11, 20, 21, HUGE)],
                         [[300], [250, 300], [250, 300], [250, 300, 400], [250, 300, 400], [250, 300, 400]])
        self.assertEqual([parting_moment(label, [], first) for first in (-HUGE, 0, 10, 11, 12, 500)],
                         [11, 11, 11, 11, 12, 500])

    def test_sightings_that_cannot_be(self):
        label = doc_label()
        for sightings in ([(9, 250)], [(12, 7)], [(12, 250), (12, 300)], [(12, 250), (15, 300)]):
            self.assertEqual([latenesses(label, sightings), steady_prices(label, sightings, 12)], [[], []])
            self.assertIsNone(parting_moment(label, sightings, -HUGE))
            self.assertIs(fits_steady(label, sightings, 0), False)

    def test_a_book_without_changes(self):
        line = Line(Book(0), (1, 2))
        self.assertEqual([latenesses(line, []), latenesses(line, [(5, 0)]), latenesses(line, [(5, 1)])],
                         [[(0, None)], [(0, None)], []])
        self.assertEqual([steady_prices(line, [(5, 0)], 9), steady_prices(line, [(5, 1)], 9)], [[0], []])
        self.assertIsNone(parting_moment(line, [], -5))

    def test_parting_by_trying_all(self):
        none = early = 0
        for line, sightings in some_settings(5, 150):
            fitting = [late for late in range(MOST + 8) if fits(line, sightings, late)]
            parted = [moment for moment in range(FIRST - 3, LAST + 6) if is_parted(line, fitting, moment)]
            for first in (FIRST - 3, 0, 1, 2, 4, 5, 9, LAST):
                later = [moment for moment in parted if moment >= first]
                found = parting_moment(line, sightings, first)
                if later:
                    self.assertEqual(found, later[0])
                else:
                    # Behind all that can part them nothing changes any more, or it lies behind what was tried.
                    self.assertTrue(found is None or found >= LAST + 6)
                    if found is not None:
                        self.assertTrue(is_parted(line, fitting, found))
                none += found is None
                early += found == first
        self.assertTrue(none > 200 and early > 60)

    def test_parting_from_a_first_moment(self):
        label = doc_label()
        sightings = [(12, 250)]
        # Some show 300 at 11 while others show 250; from 21 on some show 400, and from 23 on all do.
        self.assertEqual([parting_moment(label, sightings, first) for first in (-HUGE, 10, 11, 12, 20, 21, 22, HUGE)],
                         [11, 11, 11, 21, 21, 21, None, None])
        self.assertIsNone(parting_moment(label, [(10, 250), (20, 250), (21, 400)], 0))
        self.assertIsNone(parting_moment(Line(Book(1, [(0, 1), (5, 1)]), (0, 0)), [], -9))
        # A price in common need not be of one number.
        line = Line(Book(1, [(10, 2), (20, 1)]), (0, 0))
        self.assertEqual([parting_moment(line, [(20, 2)], first) for first in (0, 19, 20, 21, 30)], [11, 19, 21, 21, None])

    def test_moved_and_scaled(self):
        for line, sightings in some_settings(6, 60):
            for by in (HUGE, -HUGE):
                moved, looks = moved_line(line, by), [(moment + by, price) for moment, price in sightings]
                self.assertEqual(latenesses(moved, looks), latenesses(line, sightings))
                for first in (FIRST, 3, 6):
                    known = parting_moment(line, sightings, first)
                    self.assertEqual(parting_moment(moved, looks, first + by), None if known is None else known + by)
                    self.assertEqual(steady_prices(moved, looks, first + by), steady_prices(line, sightings, first))
            scaled, looks = scaled_line(line, 7), [(moment, 7 * price) for moment, price in sightings]
            self.assertEqual([latenesses(scaled, looks), parting_moment(scaled, looks, 0)],
                             [latenesses(line, sightings), parting_moment(line, sightings, 0)])
            self.assertEqual(steady_prices(scaled, looks, 4), [7 * price for price in steady_prices(line, sightings, 4)])

    def test_great_numbers(self):
        line = Line(Book(HUGE, [(-HUGE, HUGE - 1), (HUGE, HUGE)]), (0, 0))
        self.assertEqual([latenesses(line, [(HUGE, HUGE)]), latenesses(line, [(HUGE, HUGE - 1)]),
                          latenesses(line, [(2 * HUGE, HUGE - 1), (2 * HUGE + 5, HUGE)])],
                         [[(0, 0), (2 * HUGE, None)], [(0, 2 * HUGE)], [(HUGE, HUGE + 5)]])
        self.assertEqual(steady_prices(line, [(HUGE, HUGE - 1)], 3 * HUGE), [HUGE - 1, HUGE])
        self.assertEqual(steady_prices(line, [(HUGE, HUGE - 1)], 3 * HUGE + 1), [HUGE])
        self.assertEqual([parting_moment(line, [(2 * HUGE, HUGE - 1), (2 * HUGE + 5, HUGE)], first)
                          for first in (-HUGE, 1, 5, 2 * HUGE)], [1, 1, 2 * HUGE + 1, 2 * HUGE + 1])
        self.assertEqual(parting_moment(line, [(HUGE, HUGE - 1)], HUGE), HUGE + 1)
        self.assertIs(fits_steady(line, [(HUGE, HUGE)], 2 * HUGE), True)
        self.assertIs(fits_steady(line, [(HUGE, HUGE)], 2 * HUGE - 1), False)

    def test_many_sightings_of_many_changes(self):
        moments = [2, 3, 6, 8, 12, 14, 15, 18, 22, 24, 25, 27]
        line = Line(Book(0, [(moment, (index + 1) % 2) for index, moment in enumerate(moments)]), (0, 0))
        sightings = [(moment, 0) for moment in (1, 52, 117, 136, 199, 221, 228)]
        found = latenesses(line, sightings)
        self.assertEqual([late for late in range(300) if any(low <= late and (high is None or late <= high)
                                                             for low, high in found)],
                         [late for late in range(300) if fits(line, sightings, late)])
        fitting = [late for late in range(300) if fits(line, sightings, late)]
        for first in (0, 50, 230):
            self.assertEqual(parting_moment(line, sightings, first),
                             min(moment for moment in range(first, 400) if is_parted(line, fitting, moment)))

    def test_asked_by_turns(self):
        label, other = doc_label(), Line(doc_label().book, (0, 4), [12, 30])
        first, second = [(12, 250)], [(33, 250)]
        for _ in range(3):
            found = latenesses(label, first)
            self.assertEqual([found, latenesses(other, first), latenesses(label, second), latenesses(other, second)],
                             [[(0, 2)], [(0, 0)], [(13, 23)], [(3, 21)]])
            found.clear()
            found = steady_prices(label, first, 21)
            self.assertEqual([found, steady_prices(other, first, 21), steady_prices(label, second, 21)],
                             [[250, 400], [250], [300]])
            found.append(1)
            self.assertEqual([parting_moment(label, first, 0), parting_moment(label, second, 0),
                              parting_moment(other, second, 0)], [11, 24, 16])
        self.assertEqual([label, first, second], [doc_label(), [(12, 250)], [(33, 250)]])


if __name__ == "__main__":
    unittest.main()
