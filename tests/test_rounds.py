"""[90] Rounds, with what [3], [4] and [12] say of them."""

import unittest
from random import Random

from helpers import HUGE, Case, doc_book, doc_label, odd_values, some_board
from labeltill.bands import meets
from labeltill.books import Book
from labeltill.charges import overs
from labeltill.errors import LabelError, NotLater, Outside, Wrong
from labeltill.lines import Line
from labeltill.rounds import Rounds, greatest_round_over, least_round_over, next_round_over, round_band


def doc_week():
    return Rounds(7, [(0, 300), (5, 250)])


def some_rounds(random):
    """Small Rounds, of prices of which many come again."""
    period = random.randint(1, 8)
    moments = sorted(random.sample(range(period), random.randint(1, min(period, 4))))
    return Rounds(period, [(moment, random.randint(0, 3)) for moment in moments])


def some_settings(seed, many, most=12):
    """Tuples of Rounds, the boards of a label and a till, and a gap, many of them longer than a period."""
    random = Random(seed)
    return [(some_rounds(random), *[some_board(random, random.choice([0, 2, most])) for _ in range(3)]) for _ in range(many)]


def changes_about(rounds, turns):
    """The changes of some rounds ahead of and behind the moment 0, straight from the definition."""
    return [(turn * rounds.period + moment, price) for turn in range(-turns, turns) for moment, price in rounds.changes()]


class Unrolled:
    """Rounds written out far enough on both sides, their numbers being those of a Book less what lies ahead of 0."""

    def __init__(self, rounds):
        turns = 8 + 60 // rounds.period
        told = changes_about(rounds, turns)
        self.ahead = turns * len(rounds)
        # The number ahead of all others is not looked at.
        self.book = Book(10 ** 6, told)

    def line(self, board):
        return Line(self.book, board)

    def number(self, number):
        """The number of the Book for one of the Rounds."""
        return number + self.ahead + 1

    def back(self, number):
        return number - self.ahead - 1

    def band(self, label, till, gap, number):
        """The numbers of the Rounds that can be seen at the till behind one at the label."""
        label, till = self.line(label), self.line(till)
        return [self.back(other) for other in range(len(self.book)) if meets(label, self.number(number), till, other, gap)]


class RoundsTest(Case):
    def test_of_the_document(self):
        week = doc_week()
        self.assertEqual([week.told_at(3), week.number_at(-1), week.window((0, 1), 2), week.stretch((0, 3), HUGE),
                          week.unrolled(1, 2).prices()],
                         [12, -1, (7, 13), (285714285714285714285714285712, 285714285714285714285714285714), [300, 250, 300]])
        self.assertEqual([round_band(week, (0, 2), (0, 2), (0, 1), 1), greatest_round_over(week, (0, 2), (0, 2), (0, 1)),
                          next_round_over(week, (0, 2), (0, 0), (0, 0), 2)], [(0, 2), 50, 3])

    def test_wrong_arguments(self):
        good = [(0, 300), (5, 250)]
        for thing in odd_values() + [0, -7, "7", 7 * (1,)]:
            self.fails(Wrong, "place", 0, Rounds, thing, good)
        for thing in odd_values() + [
                [], (), 7, None, "ab", {(0, 300)}, {(0, 300): 1}, {0: (0, 300)}, [None], [(0, 300), None], [[0, 300]],
                [(0, 300), [5, 250]], [(0,)], [(0, 300, 1)], [()], [(0, -1)], [(0, True)], [(True, 300)], [(False, 300)],
                [(0, None)], [("0", 300)], [(0, "300")], ((0, 300), (5, -1)), Book(300, [(5, 250)]), [Book(3)]]:
            self.fails(Wrong, "place", 1, Rounds, 7, thing)
        # The first argument that is not as described, and ahead of all other errors.
        for period in (0, True, None, -1):
            for changes in ([], None, [(5, 250), (0, 300)], [(-1, 300)], [(7, 300)]):
                self.fails(Wrong, "place", 0, Rounds, period, changes)
        self.fails(Wrong, "place", 1, Rounds, 7, [(5, 250), (0, 300), (9, True)])
        self.fails(Wrong, "place", 1, Rounds, 7, [(9, 250), (-1, 300), None])

    def test_not_later(self):
        for changes, index in (([(0, 1), (0, 2)], 1), ([(5, 1), (4, 2), (3, 3)], 1), ([(0, 1), (5, 2), (5, 3), (1, 1)], 2),
                               (((0, 1), (1, 2), (2, 3), (1, 4)), 3)):
            for period in (7, 1, HUGE):
                with self.assertRaises(NotLater) as context:
                    Rounds(period, changes)
                self.assertEqual(context.exception.index, index)
        # A change that is outside, ahead of it or behind, counts only then.
        for changes, index in (([(9, 1), (8, 2)], 1), ([(-5, 1), (-5, 2), (3, 3)], 1), ([(0, 1), (9, 1), (9, 2)], 2)):
            with self.assertRaises(NotLater) as context:
                Rounds(7, changes)
            self.assertEqual(context.exception.index, index)

    def test_outside(self):
        for changes, index in (([(-1, 1)], 0), ([(7, 1)], 0), ([(-1, 1), (7, 2)], 0), ([(0, 1), (7, 2)], 1),
                               (((0, 1), (6, 2), (7, 3), (8, 4)), 2), ([(-HUGE, 1), (3, 1)], 0), ([(3, 1), (HUGE, 1)], 1),
                               ([(-2, 1), (-1, 2), (3, 1)], 0)):
            with self.assertRaises(Outside) as context:
                Rounds(7, changes)
            self.assertEqual(context.exception.index, index)
        for changes in ([(0, 1)], [(6, 1)], [(0, 1), (6, 2)], tuple((moment, 1) for moment in range(7))):
            self.assertEqual(Rounds(7, changes).changes(), list(changes))
        self.assertEqual(len(Rounds(1, [(0, 0)])), 1)
        with self.assertRaises(Outside):
            Rounds(1, [(1, 0)])

    def test_errors_are_one_family(self):
        for arguments in ((0, [(0, 1)]), (7, []), (7, [(0, 1), (0, 1)]), (7, [(7, 1)])):
            with self.assertRaises(LabelError):
                Rounds(*arguments)

    def test_what_it_is(self):
        week = doc_week()
        self.assertEqual([week.period, week.changes(), len(week)], [7, [(0, 300), (5, 250)], 2])
        self.assertEqual([Rounds(1, [(0, 5)]).period, len(Rounds(7, [(moment, 0) for moment in range(6)]))], [1, 6])

    def test_copied(self):
        told = [(0, 300), (5, 250)]
        week = Rounds(7, told)
        told.append((6, 1))
        told[0] = (1, 1)
        self.assertEqual([week.changes(), len(week), week == doc_week()], [[(0, 300), (5, 250)], 2, True])
        week.changes().clear()
        week.changes().append(None)
        self.assertEqual([week.changes(), week.price_of(2)], [[(0, 300), (5, 250)], 300])
        self.assertEqual(Rounds(7, tuple(week.changes())), week)

    def test_equal(self):
        week = doc_week()
        self.assertTrue(week == Rounds(7, ((0, 300), (5, 250))))
        self.assertFalse(week != Rounds(7, [(0, 300), (5, 250)]))
        # What would be told alike all the same is unlike: of another period, or begun elsewhere.
        for other in [Rounds(8, [(0, 300), (5, 250)]), Rounds(7, [(0, 300)]), Rounds(7, [(0, 300), (4, 250)]),
                      Rounds(7, [(0, 300), (5, 251)]), Rounds(14, [(0, 300), (5, 250), (7, 300), (12, 250)]),
                      Rounds(7, [(0, 300), (5, 250), (6, 250)]), 7, [(0, 300), (5, 250)], (7, [(0, 300), (5, 250)]),
                      Book(300, [(5, 250)]), doc_label()] + odd_values():
            self.assertFalse(week == other)
            self.assertTrue(week != other)
            self.assertFalse(other == week)

    def test_numbers_of_either_sign(self):
        for rounds, *_ in some_settings(1, 60):
            told = changes_about(rounds, 5)
            ahead = 5 * len(rounds)
            for number in range(-ahead, ahead):
                self.assertEqual((rounds.told_at(number), rounds.price_of(number)), told[number + ahead])
            for moment in range(-3 * rounds.period, 3 * rounds.period):
                last = max(number for number in range(-ahead, ahead) if told[number + ahead][0] <= moment)
                self.assertEqual(rounds.number_at(moment), last)

    def test_numbers_by_hand(self):
        week = doc_week()
        self.assertEqual([week.told_at(number) for number in range(-3, 4)], [-9, -7, -2, 0, 5, 7, 12])
        self.assertEqual([week.price_of(number) for number in range(-3, 3)], [250, 300, 250, 300, 250, 300])
        self.assertEqual([week.number_at(moment) for moment in (-3, -2, -1, 0, 4, 5, 6, 7)], [-2, -1, -1, 0, 0, 1, 1, 2])
        # Ahead of the first change of a round the last one of the round ahead counts.
        late = Rounds(10, [(3, 1), (9, 2)])
        self.assertEqual([late.number_at(moment) for moment in (-8, -7, -1, 0, 2, 3, 8, 9, 12, 13)],
                         [-3, -2, -1, -1, -1, 0, 0, 1, 1, 2])
        self.assertEqual([week.told_at(2 * HUGE), week.told_at(-2 * HUGE - 1), week.price_of(2 * HUGE + 1), week.price_of(-HUGE)],
                         [7 * HUGE, -7 * HUGE - 2, 250, 300])
        self.assertEqual([week.number_at(7 * HUGE - 1), week.number_at(7 * HUGE + 5), week.number_at(-7 * HUGE)],
                         [2 * HUGE - 1, 2 * HUGE + 1, -2 * HUGE])

    def test_windows_and_stretches_of_an_unrolled_line(self):
        for rounds, board, other, _ in some_settings(2, 60):
            unrolled = Unrolled(rounds)
            for told in (board, other, (0, 0), (0, 3 * rounds.period), (2 * rounds.period, 5 * rounds.period)):
                line = unrolled.line(told)
                for number in range(-7, 8):
                    self.assertEqual(rounds.window(told, number), line.window(unrolled.number(number)))
                for moment in range(-9, 10):
                    low, high = line.stretch(moment)
                    self.assertEqual(rounds.stretch(told, moment), (unrolled.back(low), unrolled.back(high)))
                    self.assertEqual(rounds.prices_at(told, moment), line.prices_at(moment))

    def test_stretches_by_hand(self):
        week = doc_week()
        self.assertEqual([week.stretch((0, 0), moment) for moment in (-2, 0, 1, 4, 5, 6, 7)],
                         [(-2, -1), (-1, 0), (0, 0), (0, 0), (0, 1), (1, 1), (1, 2)])
        self.assertEqual([week.stretch((1, 2), moment) for moment in (0, 1, 2, 3, 6, 7, 8)],
                         [(-2, -1), (-1, 0), (-1, 0), (0, 0), (0, 1), (0, 1), (1, 2)])
        self.assertEqual([week.prices_at((1, 2), moment) for moment in (0, 1, 3, 6)], [[250, 300], [250, 300], [300], [250, 300]])
        self.assertEqual([week.window((1, 2), number) for number in (-1, 0, 1)], [(-1, 2), (1, 7), (6, 9)])

    def test_boards_longer_than_many_periods(self):
        week = doc_week()
        self.assertEqual([week.stretch((0, 70), 0), week.prices_at((0, 70), 0), week.stretch((700, HUGE), 0)],
                         [(-21, 0), [250, 300], (week.number_at(-HUGE - 1), -200)])
        self.assertEqual([week.prices_at((0, HUGE), 5), week.prices_at((HUGE, 2 * HUGE), 5), week.prices_at((HUGE, HUGE), 1 - HUGE)],
                         [[250, 300]] * 2 + [[week.price_of(week.number_at(1 - 2 * HUGE))]])
        self.assertEqual(week.window((HUGE, 2 * HUGE), 2 * HUGE), (8 * HUGE, 9 * HUGE + 5))
        one = Rounds(HUGE, [(5, 3)])
        self.assertEqual([one.stretch((0, 2), 5), one.stretch((0, 2), 8), one.prices_at((0, HUGE), HUGE), one.number_at(4)],
                         [(-1, 0), (0, 0), [3], -1])

    def test_unrolled(self):
        for rounds, *_ in some_settings(3, 30):
            told = changes_about(rounds, 40)
            ahead = 40 * len(rounds)
            for first in (-7, -1, 0, 1, 2, 5):
                for many in (0, 1, 2, 7, 12):
                    at = first + ahead
                    self.assertEqual(rounds.unrolled(first, many), Book(told[at - 1][1], told[at:at + many]))

    def test_unrolled_by_hand(self):
        week = doc_week()
        self.assertEqual([week.unrolled(0, 0), week.unrolled(1, 0), week.unrolled(0, 1)],
                         [Book(250), Book(300), Book(250, [(0, 300)])])
        self.assertEqual(week.unrolled(-1, 3), Book(300, [(-2, 250), (0, 300), (5, 250)]))
        long = week.unrolled(-30, 60)
        self.assertEqual([len(long), long.moments()[0], long.moments()[-1], long[0]], [61, -105, 14 * 7 + 5, 250])
        self.assertEqual(week.unrolled(2 * HUGE, 2), Book(250, [(7 * HUGE, 300), (7 * HUGE + 5, 250)]))

    def test_bands_of_an_unrolled_book(self):
        longer = 0
        for rounds, label, till, gap in some_settings(4, 60, 9):
            unrolled = Unrolled(rounds)
            for number in range(-4, 5):
                known = unrolled.band(label, till, gap, number)
                self.assertEqual(round_band(rounds, label, till, gap, number), (known[0], known[-1]))
            longer += gap[1] > rounds.period
        self.assertTrue(longer > 10)

    def test_overs_of_an_unrolled_book(self):
        kinds = {"none": 0, "some": 0, "later": 0}
        for rounds, label, till, gap in some_settings(5, 80, 9):
            many = len(rounds)
            unrolled = Unrolled(rounds)
            found = []
            for number in range(-many, 2 * many):
                known = unrolled.band(label, till, gap, number)
                found.append([unrolled.book[unrolled.number(other)] - rounds.price_of(number) for other in known])
            self.assertEqual(greatest_round_over(rounds, label, till, gap), max(over for row in found for over in row))
            self.assertEqual(least_round_over(rounds, label, till, gap), min(over for row in found for over in row))
            greater = [number for number, row in zip(range(-many, 2 * many), found) if max(row) > 0]
            for number in range(-many, many):
                later = [other for other in greater if other >= number]
                self.assertEqual(next_round_over(rounds, label, till, gap, number), later[0] if later else None)
                kinds["later" if later and later[0] > number else "some" if later else "none"] += 1
        self.assertTrue(min(kinds.values()) > 20, kinds)

    def test_overs_of_a_round_told_as_a_line(self):
        # Overs of a book of many rounds, less those at its two ends, are those of the Rounds.
        week, label, till, gap = doc_week(), (0, 2), (1, 3), (0, 4)
        book = week.unrolled(0, 12)
        found = overs(Line(book, label), Line(book, till), gap, "till")
        self.assertEqual([greatest_round_over(week, label, till, gap), least_round_over(week, label, till, gap)],
                         [found[-1], found[0]])

    def test_next_over_by_hand(self):
        week = doc_week()
        # Only who saw 250 can be asked more.
        self.assertEqual([next_round_over(week, (0, 2), (0, 0), (0, 0), number) for number in (-3, -2, 0, 1, 2, 2 * HUGE)],
                         [-3, -1, 1, 1, 3, 2 * HUGE + 1])
        # By the same boards, at once, a till that is never ahead of the label asks no more.
        self.assertIsNone(next_round_over(Rounds(7, [(0, 3)]), (0, 9), (0, 9), (0, 9), 0))
        self.assertIsNone(next_round_over(Rounds(9, [(0, 3), (5, 3)]), (0, 9), (0, 9), (0, 9), -HUGE))
        self.assertEqual([greatest_round_over(Rounds(7, [(0, 3)]), (0, 9), (0, 9), (0, 9)),
                          least_round_over(Rounds(7, [(0, 3)]), (0, 9), (0, 9), (0, 9))], [0, 0])
        # Who sees the greatest price is asked no more, whatever the till shows.
        thrice = Rounds(9, [(0, 1), (3, 2), (6, 3)])
        self.assertEqual([next_round_over(thrice, (0, 0), (0, 0), (0, 0), number) for number in range(-1, 4)], [0, 0, 1, 3, 3])

    def test_a_greater_price_at_just_one_moment(self):
        # The till takes 3 over at 23; who saw 2 up to 20 + most can see it if this and the gap lead there.
        rise = Rounds(40, [(5, 2), (20, 3), (30, 1)])
        for most, gap, number in ((2, (0, 0), 2), (3, (0, 0), 0), (2, (0, 1), 0), (1, (1, 1), 2), (1, (2, 2), 0)):
            self.assertEqual(next_round_over(rise, (0, most), (3, 3), gap, 0), number)
        # The till leaves 3 at 33; who sees 2 from 30 + least on can see it if this and the gap do not lead behind it.
        fall = Rounds(40, [(5, 1), (20, 3), (30, 2)])
        for least, gap, number in ((3, (0, 0), 2), (4, (0, 0), 3), (2, (1, 1), 2), (2, (2, 2), 3), (2, (1, 9), 2)):
            self.assertEqual(next_round_over(fall, (least, 4), (3, 3), gap, 2), number)

    def test_great_gaps(self):
        week = doc_week()
        self.assertEqual([round_band(week, (0, 0), (0, 0), (7 * HUGE, 7 * HUGE), 0), round_band(week, (0, 0), (0, 0), (0, 7 * HUGE), 0)],
                         [(2 * HUGE - 1, 2 * HUGE + 1), (-1, 2 * HUGE + 1)])
        self.assertEqual([greatest_round_over(week, (0, HUGE), (HUGE, 2 * HUGE), (0, HUGE)),
                          least_round_over(week, (0, HUGE), (HUGE, 2 * HUGE), (0, HUGE))], [50, -50])
        self.assertEqual(next_round_over(week, (0, HUGE), (0, HUGE), (0, HUGE), 2 * HUGE), 2 * HUGE + 1)
        great = Rounds(HUGE, [(0, HUGE), (HUGE - 1, 0)])
        self.assertEqual([great.told_at(HUGE), great.number_at(-1), great.stretch((0, 1), HUGE)], [HUGE * HUGE // 2, -1, (0, 2)])
        self.assertEqual([round_band(great, (0, 0), (0, 0), (0, 0), 0), greatest_round_over(great, (0, 0), (0, 0), (0, 0))],
                         [(-1, 1), HUGE])

    def test_moved_by_whole_periods(self):
        for rounds, label, till, gap in some_settings(6, 60):
            for turns in (-HUGE, -1, 2, HUGE):
                by, many = turns * rounds.period, turns * len(rounds)
                for number in range(-3, 4):
                    self.assertEqual(rounds.told_at(number + many), rounds.told_at(number) + by)
                    self.assertEqual(rounds.price_of(number + many), rounds.price_of(number))
                    begin, end = rounds.window(label, number)
                    self.assertEqual(rounds.window(label, number + many), (begin + by, end + by))
                    low, high = round_band(rounds, label, till, gap, number)
                    self.assertEqual(round_band(rounds, label, till, gap, number + many), (low + many, high + many))
                    found = next_round_over(rounds, label, till, gap, number)
                    self.assertEqual(next_round_over(rounds, label, till, gap, number + many),
                                     None if found is None else found + many)
                    self.assertEqual(rounds.unrolled(number + many, 5), rounds.unrolled(number, 5).moved(by))
                for moment in (-9, -1, 0, 3, 8):
                    self.assertEqual(rounds.number_at(moment + by), rounds.number_at(moment) + many)
                    low, high = rounds.stretch(till, moment)
                    self.assertEqual(rounds.stretch(till, moment + by), (low + many, high + many))
                    self.assertEqual(rounds.prices_at(till, moment + by), rounds.prices_at(till, moment))

    def test_scaled(self):
        for rounds, label, till, gap in some_settings(7, 60):
            scaled = Rounds(rounds.period, [(moment, 7 * price) for moment, price in rounds.changes()])
            for call in (greatest_round_over, least_round_over):
                self.assertEqual(call(scaled, label, till, gap), 7 * call(rounds, label, till, gap))
            for number in range(-3, 4):
                self.assertEqual([scaled.price_of(number), round_band(scaled, label, till, gap, number),
                                  next_round_over(scaled, label, till, gap, number)],
                                 [7 * rounds.price_of(number), round_band(rounds, label, till, gap, number),
                                  next_round_over(rounds, label, till, gap, number)])
                self.assertEqual(scaled.prices_at(till, number), [7 * price for price in rounds.prices_at(till, number)])
                self.assertEqual(scaled.unrolled(number, 5), rounds.unrolled(number, 5).scaled(7))

    def test_asked_by_turns(self):
        week, other = doc_week(), Rounds(10, [(3, 1), (9, 2)])
        for _ in range(3):
            found = week.prices_at((0, 9), 0)
            self.assertEqual([found, other.prices_at((0, 9), 0)], [[250, 300], [1, 2]])
            found.clear()
            book = week.unrolled(0, 3)
            self.assertEqual([book, other.unrolled(0, 2)], [Book(250, [(0, 300), (5, 250), (7, 300)]), Book(2, [(3, 1), (9, 2)])])
            book.changes().clear()
            self.assertEqual([week.number_at(9), other.number_at(9), week.told_at(2), other.told_at(2)], [2, 1, 7, 13])
            self.assertEqual([round_band(week, (0, 2), (0, 2), (0, 1), 1), round_band(other, (0, 2), (0, 2), (0, 1), 1)],
                             [(0, 2), (0, 2)])
            week.changes().clear()
        self.assertEqual([week, other], [doc_week(), Rounds(10, [(3, 1), (9, 2)])])
        self.assertEqual(doc_book(), Book(300, [(10, 250), (20, 400)]))


if __name__ == "__main__":
    unittest.main()
