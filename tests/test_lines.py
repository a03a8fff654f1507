"""[23] Lines, and [5] windows, with what [3], [4] and [12] say of them."""

import unittest
from itertools import product
from random import Random

from helpers import (HUGE, Case, doc_book, doc_label, doc_till, every_course, moments_around, moved_line, numbers_shown,
                     odd_values, scaled_line, shown_numbers, shows, some_lines)
from labeltill.books import Book
from labeltill.errors import Early, NoNumber, Wrong
from labeltill.lines import Line


class LinesTest(Case):
    def test_what_it_is_made_of(self):
        line = doc_till()
        self.assertEqual([line.book, line.board, line.sent()], [doc_book(), (1, 2), [12, 20]])
        self.assertEqual(doc_label().sent(), [10, 20])
        self.assertEqual(Line(doc_book(), (1, 2), sent=(12, 20)), line)
        self.assertEqual(Line(doc_book(), (1, 2), sent=None).sent(), [10, 20])
        self.assertEqual(Line(Book(1), (0, 0), []).sent(), [])
        self.assertEqual([Line(Book(1), (0, 0)).earliest(), Line(Book(1), (0, 0)).latest()], [[], []])
        self.assertIsInstance(Line.__dict__["book"], property)
        self.assertIsInstance(Line.__dict__["board"], property)

    def test_wrong_book(self):
        for value in odd_values() + [doc_book().changes(), doc_label()]:
            if not isinstance(value, Book):
                self.fails(Wrong, "place", 0, Line, value, (0, 0))
                self.fails(Wrong, "place", 0, Line, value, value, value)

    def test_wrong_board(self):
        for value in odd_values() + [[0, 0], (1, 0), (0, True), (False, 1), (-1, 0), (0, 0, 0), (0, [0]), doc_book()]:
            self.fails(Wrong, "place", 1, Line, doc_book(), value)
            self.fails(Wrong, "place", 1, Line, doc_book(), value, [0])
            self.fails(Wrong, "place", 1, Line, doc_book(), value, [0, 0])

    def test_wrong_sent(self):
        for value in odd_values() + [[10], (10,), [10, 20, 30], [10, True], [True, 20], [10, None], [10, [20]],
                                     [(10,), 20], {10: 20, 20: 10}, "ab", {10, 20}, [10, "20"], doc_book()]:
            if value is not None:
                self.fails(Wrong, "place", 2, Line, doc_book(), (0, 0), value)
        self.fails(Wrong, "place", 2, Line, Book(1), (0, 0), [1])
        self.fails(Wrong, "place", 2, Line, Book(1), (0, 0), 0)
        # Wrong comes ahead of Early.
        self.fails(Wrong, "place", 2, Line, doc_book(), (0, 0), [0, None])
        with self.assertRaises(Wrong) as context:
            Line(doc_book(), (0, 0), sent=False)
        self.assertEqual(context.exception.place, 2)

    def test_early(self):
        book = Book(1, [(10, 2), (20, 3), (30, 4)])
        for sent, index in (([9, 20, 30], 0), ([9, 8, 7], 0), ([10, 19, 30], 1), ([10, 19, 18], 1), ([25, 24, 30], 1),
                            ([10, 20, 29], 2), ([10, 40, 39], 2), ([50, 50, 49], 2), ([30, 29, 28], 1)):
            for kind in (list, tuple):
                with self.assertRaises(Early) as context:
                    Line(book, (0, 5), kind(sent))
                self.assertEqual(context.exception.index, index)
        for sent in ([10, 20, 30], [30, 30, 30], [25, 25, 30], [15, 40, 40]):
            self.assertEqual(Line(book, (0, 0), sent).sent(), sent)

    def test_equal(self):
        book = Book(1, [(10, 2), (20, 3)])
        unlike = [Line(book, (0, 0)), Line(book, (0, 1)), Line(book, (1, 1)), Line(book, (0, 0), [10, 21]),
                  Line(book, (0, 0), [11, 20]), Line(Book(2, book.changes()), (0, 0)), Line(book.moved(-1), (0, 0)),
                  Line(book.without(1), (0, 0)), Line(Book(1), (0, 0))]
        for index, line in enumerate(unlike):
            for place, other in enumerate(unlike):
                self.assertIs(line == other, index == place)
                self.assertIs(line != other, index != place)
            alike = Line(Book(line.book[0], line.book.changes()), tuple(line.board), tuple(line.sent()))
            self.assertIs(line == alike, True)
            self.assertIs(line != alike, False)
        self.assertIs(Line(book, (0, 3)) == Line(book, (0, 3), [10, 20]), True)
        self.assertIs(Line(book, (0, 3), (10, 20)) == Line(book, (0, 3)), True)
        for other in odd_values() + [book, (book, (0, 0), (10, 20)), 1]:
            self.assertIs(unlike[0] == other, False)
            self.assertIs(unlike[0] != other, True)

    def test_no_number(self):
        line = doc_label()
        for value in odd_values() + [3, 4, HUGE]:
            self.fails(NoNumber, "number", value, line.window, value)
            self.fails(NoNumber, "number", value, line.can_show, value, 0)
            for looks in ([(0, value)], [(0, 0), (0, value)], [(99, 0), (99, value), (99, -1)], [(0, value), (0, 99)],
                          [(5, 2), (6, 0), (7, value)]):
                self.fails(NoNumber, "number", value, line.course_with, looks)
                self.fails(NoNumber, "number", value, line.tight, looks)

    def test_windows_of_the_document(self):
        self.assertEqual([doc_label().window(number) for number in range(3)], [(None, 14), (10, 24), (20, None)])
        self.assertEqual([doc_till().window(number) for number in range(3)], [(None, 14), (13, 22), (21, None)])
        self.assertEqual(Line(Book(1), (3, 9)).window(0), (None, None))

    def test_windows_are_what_courses_show(self):
        for line in some_lines(1, 60):
            for moment in moments_around(line):
                numbers = numbers_shown(line, moment)
                for number in range(len(line.book)):
                    begin, end = line.window(number)
                    within = (begin is None or begin <= moment) and (end is None or moment <= end)
                    self.assertIs(within, number in numbers)
                    self.assertIs(line.can_show(number, moment), number in numbers)
                self.assertEqual(line.stretch(moment), (numbers[0], numbers[-1]))
                self.assertEqual(list(range(numbers[0], numbers[-1] + 1)), numbers)
                self.assertEqual(line.prices_at(moment), sorted({line.book[number] for number in numbers}))

    def test_prices_are_ascending(self):
        line = Line(Book(64, [(0, 9), (1, HUGE), (2, 1000), (3, 64), (4, 8), (5, 1)]), (0, 9))
        self.assertEqual(line.prices_at(7), [1, 8, 9, 64, 1000, HUGE])
        self.assertEqual(line.prices_at(3), [9, 64, 1000, HUGE])

    def test_windows_without_bounds(self):
        for line in some_lines(2, 30):
            self.assertIsNone(line.window(0)[0])
            self.assertIsNone(line.window(len(line.book) - 1)[1])
            self.assertIs(line.can_show(0, -HUGE), True)
            self.assertIs(line.can_show(len(line.book) - 1, HUGE), True)

    def test_courses(self):
        for line in some_lines(3, 40):
            known = every_course(line)
            least, most = line.board
            spans = [range(moment + least - 1, moment + most + 2) for moment in line.sent()]
            for told in product(*spans):
                self.assertIs(line.is_course(list(told)), list(told) in known)
                self.assertIs(line.is_course(told), False)
            self.assertEqual(line.earliest(), [min(moments) for moments in zip(*known)])
            self.assertEqual(line.latest(), [max(moments) for moments in zip(*known)])
            for course in known:
                for moment in moments_around(line):
                    numbers = shown_numbers(course, moment)
                    self.assertEqual(line.shown(course, moment), (numbers[0], numbers[-1]))

    def test_no_courses(self):
        line = doc_till()
        for value in odd_values() + [[13], [13, 21, 21], [13, True], [13, None], [[13], 21], ["13", 21], (13, 21), "ab",
                                     {13: 21, 21: 13}, line, [12, 21], [15, 21], [13, 20], [13, 23], [HUGE, HUGE]]:
            self.assertIs(line.is_course(value), False)
        self.assertIs(line.is_course([13, 21]), True)
        self.assertIs(Line(Book(1), (0, 0)).is_course([]), True)
        self.assertIs(Line(Book(1), (0, 0)).is_course(()), False)
        self.assertIs(Line(Book(1), (0, 0)).is_course([0]), False)
        overlapping = Line(Book(1, [(0, 2), (1, 3)]), (0, 5))
        self.assertIs(overlapping.is_course([3, 2]), False)
        self.assertIs(overlapping.is_course([3, 3]), True)
        self.assertIs(Line(Book(1, [(1, 2)]), (0, 0)).is_course([True]), False)

    def test_several_taken_over_at_once(self):
        line = Line(Book(1, [(0, 2), (1, 3), (2, 4)]), (0, 3))
        self.assertEqual([line.shown([2, 2, 2], moment) for moment in (1, 2, 3)], [(0, 0), (0, 3), (3, 3)])
        self.assertEqual([line.shown([0, 2, 2], moment) for moment in (0, 1, 2, 3)], [(0, 1), (1, 1), (1, 3), (3, 3)])

    def check_looks(self, line, looks, known):
        fits = [course for course in known if all(shows(course, number, moment) for moment, number in looks)]
        numbers = [number for _, number in looks]
        falls = [(one, other) for one in range(len(looks)) for other in range(one + 1, len(looks))
                 if numbers[other] < numbers[one]]
        outside = [(index,) for index, (moment, number) in enumerate(looks) if number not in numbers_shown(line, moment)]
        course = line.course_with(looks)
        if fits and not falls:
            self.assertIn(course, fits)
            self.assertIsNone(line.tight(looks))
            self.assertEqual(outside, [])
        else:
            self.assertIsNone(course)
            self.assertEqual(line.tight(looks), (outside + falls)[0])

    def test_looks_of_two(self):
        for line in some_lines(4, 12):
            known = every_course(line)
            moments = list(moments_around(line))[2:-2]
            numbers = range(len(line.book))
            for number in numbers:
                for moment in moments:
                    self.check_looks(line, [(moment, number)], known)
                    for other in numbers:
                        for later in (moment, moment + 1, moment + 3):
                            self.check_looks(line, [(moment, number), (later, other)], known)

    def test_looks_of_many(self):
        random = Random(5)
        for line in some_lines(6, 60, 3):
            known = every_course(line)
            moments = list(moments_around(line))[2:-2]
            for many in (0, 3, 4, 5, 5, 5):
                times = sorted(random.choice(moments) for _ in range(many))
                told = [random.randrange(len(line.book)) for _ in range(many)]
                self.check_looks(line, list(zip(times, told)), known)
                self.check_looks(line, list(zip(times, sorted(told))), known)

    def test_looks_of_one_course(self):
        random = Random(7)
        for line in some_lines(8, 60, 3):
            course = random.choice(every_course(line))
            looks = [(moment, number) for moment in moments_around(line) for number in shown_numbers(course, moment)]
            self.assertIsNone(line.tight(looks))
            # All that the board shows at all moments leaves no other course.
            self.assertEqual(line.course_with(looks), course)

    def test_no_looks(self):
        for line in some_lines(9, 20):
            self.assertIsNone(line.tight([]))
            self.assertIs(line.is_course(line.course_with([])), True)

    def test_falling_at_one_moment(self):
        line = Line(Book(1, [(0, 2)]), (0, 2))
        self.assertEqual(line.tight([(1, 1), (1, 0)]), (0, 1))
        self.assertIsNone(line.course_with([(1, 1), (1, 0)]))
        self.assertEqual(line.course_with([(1, 0), (1, 1)]), [1])

    def test_the_order_of_tight(self):
        line = doc_label()
        self.assertEqual(line.tight([(9, 0), (9, 1)]), (1,))
        self.assertEqual(line.tight([(20, 2), (21, 1)]), (0, 1))
        self.assertEqual(line.tight([(12, 1), (13, 0), (15, 0), (30, 1)]), (2,))
        self.assertEqual(line.tight([(11, 0), (12, 1), (13, 0), (13, 0)]), (1, 2))
        self.assertEqual(line.tight([(20, 2), (20, 2), (21, 1)]), (0, 2))
        self.assertEqual(line.tight([(20, 1), (20, 2), (21, 2), (22, 1)]), (1, 3))

    def test_moved_and_scaled(self):
        for line in some_lines(10, 25):
            for by in (5, -3, HUGE - 20):
                moved = moved_line(line, by)
                self.assertEqual(moved.earliest(), [moment + by for moment in line.earliest()])
                self.assertEqual(moved.latest(), [moment + by for moment in line.latest()])
                for number in range(len(line.book)):
                    expected = tuple(None if bound is None else bound + by for bound in line.window(number))
                    self.assertEqual(moved.window(number), expected)
                for moment in moments_around(line):
                    self.assertEqual(moved.stretch(moment + by), line.stretch(moment))
                    self.assertEqual(moved.prices_at(moment + by), line.prices_at(moment))
                    low, high = line.stretch(moment)
                    looks = [(moment, low), (moment + 1, high)]
                    later = [(moment + by, number) for moment, number in looks]
                    self.assertEqual(moved.tight(later), line.tight(looks))
                    course = line.course_with(looks)
                    expected = None if course is None else [at + by for at in course]
                    self.assertEqual(moved.course_with(later), expected)
            scaled = scaled_line(line, HUGE)
            for moment in moments_around(line):
                self.assertEqual(scaled.prices_at(moment), [price * HUGE for price in line.prices_at(moment)])
                self.assertEqual(scaled.stretch(moment), line.stretch(moment))

    def test_great_numbers(self):
        book = Book(HUGE, [(-HUGE, 1), (0, HUGE), (HUGE, 2)])
        line = Line(book, (5, HUGE), [-HUGE, 1, HUGE])
        self.assertEqual([line.window(number) for number in range(4)],
                         [(None, 0), (5 - HUGE, HUGE + 1), (6, 2 * HUGE), (HUGE + 5, None)])
        self.assertEqual([line.stretch(0), line.stretch(1), line.stretch(6)], [(0, 1), (1, 1), (1, 2)])
        self.assertEqual([line.stretch(HUGE + 1), line.stretch(HUGE + 5)], [(1, 2), (2, 3)])
        self.assertEqual(line.prices_at(-HUGE), [HUGE])
        self.assertEqual(line.prices_at(5 - HUGE), [1, HUGE])
        self.assertEqual([line.earliest(), line.latest()],
                         [[5 - HUGE, 6, HUGE + 5], [0, HUGE + 1, 2 * HUGE]])
        looks = [(-5, 0), (HUGE, 1), (2 * HUGE, 2)]
        course = line.course_with(looks)
        self.assertIs(line.is_course(course), True)
        for moment, number in looks:
            self.assertTrue(shows(course, number, moment))
        self.assertEqual(line.tight([(1, 0), (2, 1)]), (0,))

    def test_what_is_passed_stays_and_is_copied(self):
        sent = [12, 20]
        line = Line(doc_book(), (1, 2), sent)
        self.assertEqual(sent, [12, 20])
        sent[0] = 10
        sent.append(5)
        self.assertEqual(line, doc_till())
        looks = [(13, 0), (13, 1), (22, 2)]
        line.course_with(looks)
        line.tight(looks)
        self.assertEqual(looks, [(13, 0), (13, 1), (22, 2)])
        course = [13, 21]
        line.shown(course, 13)
        line.is_course(course)
        self.assertEqual(course, [13, 21])

    def test_what_is_returned_is_new(self):
        line = doc_till()
        for ask in (line.sent, line.earliest, line.latest, lambda: line.prices_at(13), lambda: line.course_with([(13, 1)]),
                    lambda: line.book.changes()):
            first = ask()
            second = ask()
            self.assertIs(first.__class__, list)
            self.assertEqual(first, second)
            first.clear()
            self.assertEqual(ask(), second)
        self.assertEqual(line, doc_till())
        self.assertEqual(Line(doc_book(), (0, 4)).sent(), [10, 20])

    def test_kinds_of_results(self):
        line = doc_label()
        for answer in (line.window(1), line.stretch(10), line.shown([10, 20], 10), line.tight([(9, 1)]), line.board):
            self.assertIs(answer.__class__, tuple)


if __name__ == "__main__":
    unittest.main()
