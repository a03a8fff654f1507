"""[72] The least most and the greatest least, with what [3], [4], [10] and [12] say of them."""

import unittest
from random import Random

from helpers import (HUGE, Case, doc_label, moments_around, moved_line, odd_values, scaled_line, shown_numbers,
                     some_book, some_line)
from labeltill.books import Book
from labeltill.latest import greatest_least, is_late_paper, late_paper, least_most
from labeltill.lines import Line
from labeltill.sightings import denial, is_denial, is_seen, numbers_of
from test_sightings import every_row, some_settings


def with_board(line, least, most):
    return Line(line.book, (least, most), line.sent())


def some_course(random, line, later):
    """Moments that could be a course of a line, were its board to hear a bit later, or earlier."""
    least, most = line.board
    begin, end = random.randint(random.randint(0, least), least), most + random.randint(0, later)
    course = []
    for moment in line.sent():
        course.append(max([moment + random.randint(begin, end)] + course))
    return course


def far_settings(seed, many, most):
    """Tuples of a line and of sightings, many of which the board of the line does not allow, but another one would."""
    random = Random(seed)
    found = []
    for _ in range(many):
        line = some_line(random, some_book(random, random.randint(1, 4)), 3)
        course = some_course(random, line, 4)
        sightings, number = [], 0
        # Just where the line changes what it shows the bounds of the board count.
        turns = [moment + random.choice([-1, 0, 0, 0, 1]) for moment in course] * 4 + list(moments_around(line))
        for moment in sorted(random.choice(turns) for _ in range(random.randint(0, most))):
            number = random.choice([other for other in shown_numbers(course, moment) if other >= number])
            sightings.append((moment, random.choice([line.book[number]] * 15 + [random.randint(0, 4)])))
        found.append((line, sightings))
    return found


def last_turn(line, sightings):
    """A most behind which nothing changes any more, as no change can be seen so late."""
    return line.board[0] + max([0] + [moment - sent for moment, _ in sightings for sent in line.sent()]) + 2


def is_paper(line, sightings, thing):
    """Whether a tuple of an integer, a list of integers and a list of integers or None is a paper, by the definition."""
    most, numbers, table = thing
    least = line.board[0]
    if most < least or len(numbers) != len(sightings) or numbers != sorted(numbers):
        return False
    wide = with_board(line, least, most)
    if any(number not in numbers_of(wide, sighting) for number, sighting in zip(numbers, sightings)):
        return False
    if most == least or table is None:
        return most == least and table is None
    return is_denial(with_board(line, least, most - 1), sightings, table)


class LatestTest(Case):
    def test_of_the_document(self):
        label = doc_label()
        self.assertEqual([least_most(label, [(15, 300)]), greatest_least(label, [(12, 250)]),
                          late_paper(label, [(15, 300)])], [5, 2, (5, [0], [])])

    def test_least_most_by_trying_all(self):
        kinds = {"none": 0, "least": 0, "most": 0, "within": 0, "beyond": 0}
        for line, sightings in far_settings(1, 1200, 4) + far_settings(2, 150, 10) + some_settings(3, 100, 10):
            least, most = line.board
            known = [late for late in range(least, last_turn(line, sightings))
                     if is_seen(with_board(line, least, late), sightings)]
            found = least_most(line, sightings)
            self.assertEqual(found, known[0] if known else None)
            # Where a most will do, each greater one does.
            self.assertEqual(known, list(range(found, last_turn(line, sightings))) if known else [])
            self.assertIs(found is not None and found <= most, is_seen(line, sightings))
            kinds["none"] += found is None
            if found is not None and least < most:
                kinds["least"] += found == least
                kinds["most"] += found == most
                kinds["within"] += least < found < most
                kinds["beyond"] += found > most
        self.assertTrue(min(kinds.values()) > 5, kinds)

    def test_greatest_least_by_trying_all(self):
        kinds = {"none": 0, "zero": 0, "most": 0, "within": 0, "below": 0}
        for line, sightings in far_settings(4, 1200, 4) + far_settings(5, 150, 10) + some_settings(6, 100, 10):
            least, most = line.board
            known = [late for late in range(most + 1) if is_seen(with_board(line, late, most), sightings)]
            found = greatest_least(line, sightings)
            self.assertEqual(found, known[-1] if known else None)
            self.assertEqual(known, list(range(found + 1)) if known else [])
            self.assertIs(found is not None and found >= least, is_seen(line, sightings))
            kinds["none"] += found is None
            if found is not None and most > 0:
                kinds["zero"] += found == 0
                kinds["most"] += found == most
                kinds["within"] += 0 < found < most
                kinds["below"] += found < least
        self.assertTrue(min(kinds.values()) > 5, kinds)

    def test_by_all_courses(self):
        for line, sightings in far_settings(7, 60, 3):
            least, most = line.board
            known = [late for late in range(least, least + 7) if every_row(with_board(line, least, late), sightings)]
            found = least_most(line, sightings)
            if known:
                self.assertEqual(found, known[0])
            else:
                self.assertTrue(found is None or found >= least + 7)
            known = [late for late in range(most + 1) if every_row(with_board(line, late, most), sightings)]
            self.assertEqual(greatest_least(line, sightings), max(known, default=None))

    def test_no_sightings(self):
        for line in (doc_label(), Line(Book(0), (2, 7)), Line(doc_label().book, (3, 3))):
            least, most = line.board
            self.assertEqual([least_most(line, []), greatest_least(line, []), late_paper(line, [])],
                             [least, most, (least, [], None)])
            self.assertIs(is_late_paper(line, [], (least, [], None)), True)
            for thing in ((least + 1, [], None), (least + 1, [], []), (least, [], []), (least, [0], None)):
                self.assertIs(is_late_paper(line, [], thing), False)

    def test_a_book_without_changes(self):
        line = Line(Book(3), (2, 7))
        self.assertEqual([least_most(line, [(0, 3)]), greatest_least(line, [(0, 3)]), late_paper(line, [(0, 3)])],
                         [2, 7, (2, [0], None)])
        for call in (least_most, greatest_least, late_paper):
            self.assertIsNone(call(line, [(0, 3), (1, 4)]))

    def test_sightings_that_cannot_be(self):
        label = doc_label()
        # A price that is none of the book; one ahead of its change; numbers that fall, also at one moment.
        for sightings in ([(12, 7)], [(9, 250)], [(12, 250), (13, 300)], [(12, 250), (12, 300)],
                          [(5, 300), (9, 400), (30, 400)]):
            for call in (least_most, greatest_least, late_paper):
                self.assertIsNone(call(label, sightings))
            for thing in [(4, [0] * len(sightings), None), (5, [1] * len(sightings), []), (0, [], None)] + odd_values():
                self.assertIs(is_late_paper(label, sightings, thing), False)

    def test_ahead_of_all_changes(self):
        label = Line(doc_label().book, (2, 9))
        self.assertEqual([least_most(label, [(-5, 300), (9, 300)]), greatest_least(label, [(-5, 300), (9, 300)])], [2, 9])
        # By a least of 2 no change is taken over at 11; from 12 on it may be, and by a most of 2 it is behind 12.
        self.assertEqual([least_most(label, [(moment, 300)]) for moment in (11, 12, 13, 19, 20, 500)], [2, 2, 3, 9, 10, 490])
        self.assertEqual([least_most(label, [(moment, 250)]) for moment in (11, 12, 22, 23, 30)], [None, 2, 2, 3, 10])
        self.assertEqual([greatest_least(label, [(moment, 250)]) for moment in (9, 10, 11, 18, 19, 29, 30)],
                         [None, 0, 1, 8, 9, 9, None])

    def test_at_just_the_bounds_of_the_board(self):
        label = Line(doc_label().book, (1, 4))
        self.assertEqual([least_most(label, [(11, 300)]), least_most(label, [(14, 300)]), least_most(label, [(15, 300)])],
                         [1, 4, 5])
        self.assertEqual([greatest_least(label, [(10, 250)]), greatest_least(label, [(11, 250)]),
                          greatest_least(label, [(14, 250)]), greatest_least(label, [(15, 250)])], [0, 1, 4, 4])
        self.assertEqual([greatest_least(label, [(14, 300)]), greatest_least(label, [(15, 300)])], [4, None])
        self.assertEqual([late_paper(label, [(11, 300)]), late_paper(label, [(12, 300)])], [(1, [0], None), (2, [0], [])])

    def test_the_other_part_of_the_board_means_nothing(self):
        book = doc_label().book
        for sightings, most, least in (([(13, 300), (22, 250)], 3, None), ([(10, 250)], 0, 0), ([(26, 250)], 6, 6)):
            for other in (0, 3, HUGE):
                self.assertEqual(least_most(Line(book, (0, other)), sightings), most)
            for other in (0, 3, 6):
                self.assertEqual(greatest_least(Line(book, (other, 6)), sightings), 6 if least is None else least)

    def test_sent_later(self):
        line = Line(doc_label().book, (0, 3), [12, 30])
        self.assertEqual([least_most(line, [(12, 300), (12, 250)]), least_most(line, [(14, 300), (33, 250)]),
                          greatest_least(line, [(13, 250)]), greatest_least(line, [(32, 400), (32, 400)])], [0, 3, 1, 2])

    def test_prices_that_come_again(self):
        # At 7 the price 2 may be that of the last change, or of the first one, later.
        line = Line(Book(1, [(0, 2), (1, 1), (6, 2)]), (0, 9))
        self.assertEqual([least_most(line, [(7, 2)]), least_most(line, [(5, 2)]), least_most(line, [(5, 2), (6, 1)]),
                          least_most(line, [(5, 2), (6, 2)]), least_most(line, [(5, 1), (6, 2), (8, 1)])],
                         [0, 4, 4, 4, 5])
        self.assertEqual([greatest_least(line, [(7, 2)]), greatest_least(line, [(9, 1), (9, 2)]),
                          greatest_least(line, [(3, 2), (3, 1)]), greatest_least(line, [(3, 1), (3, 2), (3, 1)])],
                         [7, 9, 2, 2])

    def test_papers_that_are_made(self):
        kinds = {"none": 0, "at once": 0, "later": 0}
        for line, sightings in far_settings(8, 300, 4) + far_settings(9, 60, 10):
            most = least_most(line, sightings)
            found = late_paper(line, sightings)
            self.assertIs(found is None, most is None)
            kinds["none"] += found is None
            if found is not None:
                self.assertEqual([found.__class__, len(found), found[0], found[1].__class__], [tuple, 3, most, list])
                self.assertIs(found[2] is None, most == line.board[0])
                self.assertTrue(is_paper(line, sightings, found))
                self.assertIs(is_late_paper(line, sightings, found), True)
                kinds["at once"] += found[2] is None
                kinds["later"] += found[2] is not None
        self.assertTrue(min(kinds.values()) > 40, kinds)

    def test_papers_near_a_paper(self):
        papers = others = 0
        for line, sightings in far_settings(10, 150, 3):
            found = late_paper(line, sightings) or (line.board[0], [0] * len(sightings), None)
            most, numbers, table = found
            changed = [numbers[:index] + [number + by] + numbers[index + 1:] for index, number in enumerate(numbers)
                       for by in (-1, 1)]
            tables = [None, [], [0], [1], [2], [1, 1], [1, 2]]
            for thing in [(late, rows, judged) for late in range(most - 1, most + 2)
                          for rows in [numbers, numbers[:-1], numbers + numbers[-1:], numbers[::-1]] + changed
                          for judged in [table] + tables]:
                known = is_paper(line, sightings, thing)
                self.assertIs(is_late_paper(line, sightings, thing), known, (line.board, sightings, thing))
                papers += known
                others += not known
        self.assertTrue(papers > 150 and others > 1000)

    def test_papers_of_any_value(self):
        label, sightings = doc_label(), [(15, 300), (24, 250)]
        good = (5, [0, 1], [])
        self.assertEqual(late_paper(label, sightings), good)
        self.assertIs(is_late_paper(label, sightings, good), True)
        for thing in odd_values() + [
                list(good), good[:2], good + (None,), (4, [0, 1], []), (6, [0, 1], []), (5, [0, 1], None), (5, [0, 1], [0]),
                (5, [0, 1], [1]), (5, [0, 1], ()), (5, (0, 1), []), (5, [0], []), (5, [0, 1, 1], []), (5, [], []),
                (5, [1, 1], []), (5, [0, 0], []), (5, [0, 2], []), (5, [1, 0], []), (5, [-1, 1], []), (5, [0, -2], []),
                (5, [False, 1], []), (5, [0, True], []), (5, ["0", 1], []), (5, [0, None], []), (5, {0: 0, 1: 1}, []),
                (5, "01", []), (5, b"\x00\x01", []), (5, [0, [1]], []), (5, [0, (1,)], []), ("5", [0, 1], []),
                (None, [0, 1], []), (True, [0, 1], []), ((5,), [0, 1], []), (-1, [0, 1], []), (0, [0, 1], None),
                (HUGE, [0, 1], []), (10 ** 999, [0, 1], []), (5, [0, 10 ** 999], []), (5, [0, 1], {}), (5, [0, 1], "")]:
            self.assertIs(is_late_paper(label, sightings, thing), False)
        for place in range(3):
            for odd in odd_values():
                thing = list(good)
                thing[place] = odd
                self.assertIs(is_late_paper(label, sightings, tuple(thing)), False)
        for index in range(2):
            for odd in odd_values():
                numbers = [0, 1]
                numbers[index] = odd
                self.assertIs(is_late_paper(label, sightings, (5, numbers, [])), False)

    def test_truths_as_a_most(self):
        label = Line(doc_label().book, (1, 4))
        self.assertIs(is_late_paper(label, [(11, 300)], (1, [0], None)), True)
        self.assertIs(is_late_paper(label, [(11, 300)], (True, [0], None)), False)
        self.assertIs(is_late_paper(label, [(11, 300)], (1, [False], None)), False)
        self.assertIs(is_late_paper(doc_label(), [(9, 300)], (False, [0], None)), False)

    def test_a_table_in_the_place_of_none(self):
        label = Line(doc_label().book, (1, 4))
        # The most is the least of the board: there is no board with a lesser one, and nothing to deny.
        self.assertIs(is_late_paper(label, [(11, 300)], (1, [0], [])), False)
        self.assertIs(is_late_paper(label, [(12, 300)], (2, [0], None)), False)
        self.assertIs(is_late_paper(label, [(12, 300)], (2, [0], [])), True)
        self.assertIs(is_late_paper(label, [(9, 300)], (2, [0], None)), False)
        self.assertIs(is_late_paper(label, [(9, 300)], (2, [0], [])), False)
        self.assertIs(is_late_paper(label, [(9, 300)], (0, [0], None)), False)

    def test_numbers_that_fall(self):
        line = Line(Book(1, [(0, 2), (1, 1), (2, 2)]), (0, 0))
        sightings = [(4, 2), (5, 2)]
        self.assertEqual(late_paper(line, sightings), (0, [3, 3], None))
        for numbers in ([1, 1], [1, 3], [3, 1]):
            self.assertIs(is_late_paper(line, sightings, (0, numbers, None)), False)
        wide = [(4, 2), (5, 1), (6, 2)]
        self.assertEqual(late_paper(line, wide), (3, [1, 2, 3], [3]))
        self.assertEqual([is_late_paper(line, wide, (3, numbers, [3])) for numbers in ([1, 2, 3], [3, 2, 3], [1, 2, 1])],
                         [True, False, False])
        self.assertEqual([is_late_paper(line, wide, (4, [1, 2, 3], table)) for table in ([3], [1, 2], [], None)],
                         [False] * 4)

    def test_moved_and_scaled(self):
        for line, sightings in far_settings(11, 120, 4):
            for by in (HUGE, -HUGE):
                moved, looks = moved_line(line, by), [(moment + by, price) for moment, price in sightings]
                for call in (least_most, greatest_least, late_paper):
                    self.assertEqual(call(moved, looks), call(line, sightings))
            scaled, looks = scaled_line(line, 7), [(moment, 7 * price) for moment, price in sightings]
            for call in (least_most, greatest_least, late_paper):
                self.assertEqual(call(scaled, looks), call(line, sightings))

    def test_great_numbers(self):
        line = Line(Book(HUGE, [(-HUGE, HUGE - 1), (HUGE, HUGE)]), (0, HUGE))
        self.assertEqual([least_most(line, [(0, HUGE)]), least_most(line, [(HUGE, HUGE), (HUGE, HUGE - 1)]),
                          least_most(line, [(2 * HUGE - 1, HUGE - 1)]), least_most(line, [(HUGE, HUGE)])],
                         [HUGE, 2 * HUGE, HUGE - 1, 0])
        self.assertEqual([greatest_least(line, [(-1, HUGE - 1)]), greatest_least(line, [(0, HUGE - 1)]),
                          greatest_least(line, [(2 * HUGE - 2, HUGE - 1), (2 * HUGE - 2, HUGE)])],
                         [HUGE - 1, HUGE, HUGE - 2])
        self.assertEqual(late_paper(line, [(HUGE, HUGE), (HUGE, HUGE - 1)]), (2 * HUGE, [0, 1], [2]))
        self.assertIs(is_late_paper(line, [(0, HUGE)], (HUGE, [0], [])), True)
        self.assertIs(is_late_paper(line, [(0, HUGE)], (HUGE + 1, [0], [])), False)

    def test_many_sightings_of_many_changes(self):
        line = Line(Book(0, [(3 * index, (index + 1) % 2) for index in range(12)]), (0, 5))
        sightings = [(40 + index, index % 2) for index in range(10)]
        known = [late for late in range(60) if is_seen(with_board(line, 0, late), sightings)]
        self.assertEqual([least_most(line, sightings), greatest_least(line, sightings[:1])], [known[0], 5])
        most, numbers, table = late_paper(line, sightings)
        self.assertEqual([most, table], [known[0], denial(with_board(line, 0, most - 1), sightings)])
        self.assertEqual([line.book[number] for number in numbers], [price for _, price in sightings])

    def test_asked_by_turns(self):
        label, other = doc_label(), Line(doc_label().book, (1, 4), [12, 30])
        first, second = [(15, 300)], [(13, 250), (33, 250)]
        for _ in range(3):
            found = late_paper(label, first)
            self.assertEqual([found, late_paper(other, first), late_paper(label, second), late_paper(other, second)],
                             [(5, [0], []), (3, [0], []), (13, [1, 1], [1]), (3, [1, 1], [1])])
            self.assertIsNot(found[1], found[2])
            found[1].append(7)
            found[2].append(7)
            thing = (13, [1, 1], [1])
            self.assertIs(is_late_paper(label, second, thing), True)
            self.assertEqual(thing, (13, [1, 1], [1]))
            self.assertEqual([least_most(label, first), least_most(other, first), greatest_least(label, second),
                              greatest_least(other, second)], [5, 3, None, 1])
        self.assertEqual([label, first, second], [doc_label(), [(15, 300)], [(13, 250), (33, 250)]])

    def test_sightings_are_judged_in_their_order(self):
        label = doc_label()
        for moment in moments_around(label):
            both = [(moment, 300), (moment, 250)]
            self.assertIsNone(least_most(label, both[::-1]))
            self.assertEqual(least_most(label, both), max(0, moment - 10, moment - 20) if moment >= 10 else None)


if __name__ == "__main__":
    unittest.main()
