"""[30] Visits, and [6] each two, with what [3], [4] and [12] say of them."""

import unittest
from itertools import product
from random import Random

from helpers import (HUGE, Case, doc_book, doc_label, doc_till, every_course, moments_around, moved_line, odd_values,
                     some_board, some_line, some_lines, some_book, shows)
from labeltill.books import Book
from labeltill.errors import NoNumber, Wrong
from labeltill.lines import Line
from labeltill.visits import Visit


def doc_visit():
    return Visit([doc_label(), doc_till()], [0, 1, 0], [(0, 3), (1, 1)])


def some_visits(seed, many, most_looks=3):
    """Visits of few looks at one or two lines, so small that all of their courses can be tried."""
    random = Random(seed)
    visits = []
    for _ in range(many):
        books = [some_book(random, 2) for _ in range(2)]
        lines = [some_line(random, random.choice(books), 2) for _ in range(random.randint(1, 2))]
        looks = [random.randrange(len(lines)) for _ in range(random.randint(1, most_looks))]
        gaps = [some_board(random, 2) for _ in looks[1:]]
        begun = random.choice([None, None, random.randint(-2, 8)])
        visits.append(Visit(lines, looks, gaps, begun))
    return visits


def every_moments(visit):
    """All lists of moments of the looks around the lines."""
    begins = moments_around(*visit.lines()) if visit.start() is None else [visit.start()]
    # The range is so wide that at its ends nothing changes any more by the small gaps tried here.
    rows = [[begin] for begin in begins]
    for least, most in visit.gaps():
        rows = [row + [row[-1] + wait] for row in rows for wait in range(least, most + 1)]
    return rows


def every_numbers(visit):
    return [list(numbers) for numbers in
            product(*[range(len(visit.lines()[look].book)) for look in visit.looks()])]


def falls(looks, numbers):
    return any(looks[one] == looks[other] and numbers[other] < numbers[one]
               for other in range(len(looks)) for one in range(other))


def seen_numbers(visit):
    """All lists of numbers of which the looks can be, by trying all courses and all moments."""
    found = set()
    lines = visit.lines()
    used = sorted(set(visit.looks()))
    for courses in product(*[every_course(lines[look]) for look in used]):
        course_of = dict(zip(used, courses))
        for moments in every_moments(visit):
            shown = [[number for number in range(len(lines[look].book)) if shows(course_of[look], number, moment)]
                     for look, moment in zip(visit.looks(), moments)]
            found.update(numbers for numbers in product(*shown) if not falls(visit.looks(), numbers))
    return found


def single_clash(visit, index, number):
    """Whether a look cannot be of its number at any moment to which begun and the gaps lead."""
    least = visit.start() + sum(gap[0] for gap in visit.gaps()[:index])
    most = visit.start() + sum(gap[1] for gap in visit.gaps()[:index])
    line = visit.lines()[visit.looks()[index]]
    return not any(line.can_show(number, moment) for moment in range(least, most + 1))


def two_looks(visit, one, other):
    """The visit of two looks of a visit alone, the gap between them being put together."""
    gaps = visit.gaps()[one:other]
    gap = (sum(gap[0] for gap in gaps), sum(gap[1] for gap in gaps))
    return Visit(visit.lines(), [visit.looks()[one], visit.looks()[other]], [gap])


class VisitsTest(Case):
    def test_what_it_is_made_of(self):
        visit = doc_visit()
        self.assertEqual([visit.lines(), visit.looks(), visit.gaps(), visit.start()],
                         [[doc_label(), doc_till()], [0, 1, 0], [(0, 3), (1, 1)], None])
        self.assertEqual(Visit([doc_label()], [0], [], -5).start(), -5)
        self.assertEqual(Visit([doc_label()], [0], [], begun=0).start(), 0)
        self.assertIsNone(Visit([doc_label()], [0], [], begun=None).start())
        five = Visit([doc_label()] * 5, [4, 3, 2, 1, 0], [(0, 0)] * 4, 3)
        self.assertEqual([len(five.lines()), five.looks(), five.gaps()], [5, [4, 3, 2, 1, 0], [(0, 0)] * 4])

    def test_wrong_lines(self):
        line = doc_label()
        for value in odd_values() + [(line,), (line, line), [line] * 6, [line, None], [[line]], [line, doc_book()],
                                     {0: line}, [line, True], line, [doc_book()]]:
            self.fails(Wrong, "place", 0, Visit, value, [0], [])
            self.fails(Wrong, "place", 0, Visit, value, [9], [9], "x")
        self.fails(Wrong, "place", 0, Visit, [], [], [])

    def test_wrong_looks(self):
        line = doc_label()
        for value in odd_values() + [[], (0,), [2], [0, 2], [0, -1], [0, True], [False], [0, None], [[0]], [0, [0]],
                                     [0] * 6, "0", {0: 0}, [0, "1"], [(0,)], [10 ** 999], [line]]:
            if value != [0]:
                self.fails(Wrong, "place", 1, Visit, [line, line], value, [])
                self.fails(Wrong, "place", 1, Visit, [line, line], value, [(0, 0)], True)
        self.fails(Wrong, "place", 1, Visit, [line], [1], [])

    def test_wrong_gaps(self):
        line = doc_label()
        for value in odd_values() + [[], [(0, 0)], [(0, 0)] * 3, ((0, 0), (0, 0)), [(0, 0), (1, 0)], [(0, 0), [0, 0]],
                                     [(0, 0), (0, True)], [(False, 1), (0, 0)], [(-1, 0), (0, 0)], [(0, 0), None],
                                     [(0, 0), (0, 0, 0)], [(0, 0), (0,)], {0: (0, 0), 1: (0, 0)}, [[(0, 0), (0, 0)]]]:
            self.fails(Wrong, "place", 2, Visit, [line], [0, 0, 0], value)
            self.fails(Wrong, "place", 2, Visit, [line], [0, 0, 0], value, "x")
        self.fails(Wrong, "place", 2, Visit, [line], [0], [(0, 0)])
        self.fails(Wrong, "place", 2, Visit, [line], [0], ())

    def test_wrong_begun(self):
        for value in odd_values() + [[0], (0,), [None], doc_label()]:
            if value is not None and not (isinstance(value, int) and not isinstance(value, bool)):
                self.fails(Wrong, "place", 3, Visit, [doc_label()], [0], [], value)
                self.fails(Wrong, "place", 3, Visit, [doc_label()], [0], [], begun=value)

    def test_equal(self):
        label, till = doc_label(), doc_till()
        unlike = [Visit([label, till], [0, 1], [(0, 3)]), Visit([label, till], [0, 1], [(0, 4)]),
                  Visit([label, till], [1, 0], [(0, 3)]), Visit([till, label], [0, 1], [(0, 3)]),
                  Visit([label, till], [0, 1], [(0, 3)], 0), Visit([label, till], [0, 1], [(0, 3)], 1),
                  Visit([label, till, till], [0, 1], [(0, 3)]), Visit([label, till], [0], []), doc_visit()]
        for index, visit in enumerate(unlike):
            for place, other in enumerate(unlike):
                self.assertIs(visit == other, index == place)
                self.assertIs(visit != other, index != place)
            alike = Visit(visit.lines(), visit.looks(), visit.gaps(), visit.start())
            self.assertIs(visit == alike, True)
            self.assertIs(visit != alike, False)
        same = Visit([Line(doc_book(), (0, 4), [10, 20]), doc_till()], [0, 1], [(0, 3)], None)
        self.assertIs(same == unlike[0], True)
        for other in odd_values() + [label, (visit.lines(), visit.looks(), visit.gaps(), None), 1]:
            self.assertIs(unlike[0] == other, False)
            self.assertIs(unlike[0] != other, True)

    def test_no_number(self):
        visit = Visit([doc_label(), Line(Book(1), (0, 0))], [0, 1, 0], [(0, 3), (0, 3)])
        for value in odd_values() + [3, 10 ** 999]:
            for numbers, first in (([value, 0, 0], 0), ([2, 0, value], 2), ([0, value, value], 1), ([2, value, 9], 1),
                                   ([0, 0, value], 2), ([value, 9, 9], 0)):
                for call, arguments in ((visit.can_be, (numbers,)), (visit.shown_by, (numbers,)),
                                        (visit.clash, (numbers,)), (visit.is_shown, (numbers, None)),
                                        (visit.is_shown, (numbers, ([], [])))):
                    self.fails(NoNumber, "number", numbers[first], call, *arguments)
                if value is not None:
                    for index in range(3):
                        self.fails(NoNumber, "number", numbers[first], visit.numbers_at, numbers, index)
        # The second line has the number 0 alone.
        self.fails(NoNumber, "number", 1, visit.can_be, [2, 1, 0])
        self.fails(NoNumber, "number", 1, visit.numbers_at, [None, 1, None], 0)
        self.assertTrue(visit.can_be([2, 0, 2]))

    def test_all_numbers(self):
        for visit in some_visits(1, 70):
            known = seen_numbers(visit)
            for numbers in every_numbers(visit):
                can = tuple(numbers) in known
                self.assertIs(visit.can_be(numbers), can)
                thing = visit.shown_by(numbers)
                self.assertIs(visit.is_shown(numbers, thing), can)
                if can:
                    self.assertIs(thing.__class__, tuple)
                    self.check_thing(visit, numbers, thing)
                    self.assertIsNone(visit.clash(numbers))
                else:
                    self.assertIsNone(thing)
                    self.assertEqual(visit.clash(numbers), self.least_clash(visit, numbers))

    def check_thing(self, visit, numbers, thing):
        moments, courses = thing
        self.assertEqual([len(moments), len(courses)], [len(visit.looks()), len(visit.lines())])
        if visit.start() is not None:
            self.assertEqual(moments[0], visit.start())
        for index, (least, most) in enumerate(visit.gaps()):
            self.assertTrue(least <= moments[index + 1] - moments[index] <= most)
        for line, course in zip(visit.lines(), courses):
            self.assertIn(course, every_course(line))
        for look, moment, number in zip(visit.looks(), moments, numbers):
            self.assertTrue(shows(courses[look], number, moment))

    def least_clash(self, visit, numbers):
        many = len(numbers)
        if visit.start() is not None:
            for index in range(many):
                if single_clash(visit, index, numbers[index]):
                    return (index,)
        for one in range(many):
            for other in range(one + 1, many):
                if (numbers[one], numbers[other]) not in seen_numbers(two_looks(visit, one, other)):
                    return (one, other)
        return None

    def test_each_two(self):
        for visit in some_visits(2, 40):
            if visit.start() is not None:
                continue
            pairs = {(one, other): seen_numbers(two_looks(visit, one, other))
                     for other in range(len(visit.looks())) for one in range(other)}
            for numbers in every_numbers(visit):
                each = all((numbers[one], numbers[other]) in known for (one, other), known in pairs.items())
                self.assertIs(visit.can_be(numbers), each)

    def test_numbers_at(self):
        for visit in some_visits(3, 60):
            known = seen_numbers(visit)
            choices = [[None] + list(range(len(visit.lines()[look].book))) for look in visit.looks()]
            for told in product(*choices):
                fits = [numbers for numbers in known
                        if all(want is None or want == number for want, number in zip(told, numbers))]
                for index in range(len(told)):
                    found = sorted({numbers[index] for numbers in fits})
                    answer = visit.numbers_at(list(told), index)
                    self.assertEqual(answer, (found[0], found[-1]) if found else None)
                    if found:
                        self.assertEqual(found, list(range(found[0], found[-1] + 1)))

    def test_is_shown_by_all_moments_and_courses(self):
        for visit in some_visits(4, 14, 2):
            lines = visit.lines()
            for numbers in every_numbers(visit):
                for moments in every_moments(visit)[3:9]:
                    for courses in product(*[every_course(line)[-3:] for line in lines]):
                        expected = not falls(visit.looks(), numbers) and all(
                            shows(courses[look], number, moment)
                            for look, moment, number in zip(visit.looks(), moments, numbers))
                        thing = (moments, [list(course) for course in courses])
                        self.assertIs(visit.is_shown(numbers, thing), expected)

    def test_is_shown_of_any_value(self):
        visit = doc_visit()
        good = ([13, 13, 14], [[13, 21], [13, 21]])
        self.assertIs(visit.is_shown([0, 1, 1], good), True)
        self.assertIs(visit.is_shown([0, 1, 1], ([13, 13, 14], [[13, 24], [13, 22]])), True)
        for thing in odd_values() + [
                list(good), good[0], (good[0],), good + ([],), (tuple(good[0]), good[1]), (good[0], tuple(good[1])),
                ([13, 13], good[1]), ([13, 13, 14, 15], good[1]), (good[0], [[13, 21]]), (good[0], [[13, 21]] * 3),
                ([13, 13, True], good[1]), ([13, 13, None], good[1]), ([13, 13, [14]], good[1]),
                (["13", 13, 14], good[1]), (good[0], [(13, 21), [13, 21]]), (good[0], [[13, 21], [13, True]]),
                (good[0], [[13, 21], None]), (None, good[1]), (good[0], None), ([13, 13, 15], good[1]),
                ([13, 17, 18], good[1]), ([13, 12, 13], good[1]), ([9, 13, 14], good[1]),
                (good[0], [[13, 25], [13, 21]]), (good[0], [[13, 21], [12, 21]]), (good[0], [[14, 21], [14, 21]]),
                (good[0], [[15, 21], [13, 21]]), ({0: 13}, good[1]), (good[0], {0: [13, 21]}), (good[1], good[0])]:
            self.assertIs(visit.is_shown([0, 1, 1], thing), False)
        self.assertIs(visit.is_shown([0, 1, 1], ([12, 13, 14], good[1])), True)
        self.assertIs(visit.is_shown([1, 1, 1], good), True)
        self.assertIs(visit.is_shown([0, 0, 0], good), False)
        self.assertIs(visit.is_shown([0, 2, 1], good), False)

    def test_is_shown_of_the_begin(self):
        line = doc_label()
        for begun in (None, 9, 10):
            visit = Visit([line], [0], [], begun)
            for moment in (8, 9, 10):
                self.assertIs(visit.is_shown([0], ([moment], [[10, 20]])), begun is None or begun == moment)
        # 0 and False are equal to Python, and are not the same here.
        self.assertIs(Visit([line], [0], [], 0).is_shown([0], ([False], [[10, 20]])), False)

    def test_is_shown_of_falling_numbers(self):
        line = Line(Book(1, [(0, 2)]), (0, 2))
        visit = Visit([line], [0, 0], [(0, 0)])
        self.assertIs(visit.is_shown([0, 1], ([1, 1], [[1]])), True)
        self.assertIs(visit.is_shown([1, 0], ([1, 1], [[1]])), False)
        self.assertEqual(visit.clash([1, 0]), (0, 1))
        self.assertIs(visit.can_be([1, 0]), False)
        self.assertIsNone(visit.shown_by([1, 0]))

    def test_equal_lines_are_two_boards(self):
        line = Line(Book(1, [(0, 2)]), (0, 5))
        one_board = Visit([line], [0, 0], [(1, 1)])
        two_boards = Visit([line, line], [0, 1], [(1, 1)])
        self.assertIs(one_board.can_be([1, 0]), False)
        self.assertIs(two_boards.can_be([1, 0]), True)
        self.assertEqual([one_board.clash([1, 0]), two_boards.clash([1, 0])], [(0, 1), None])
        self.assertEqual(one_board.numbers_at([1, None], 1), (1, 1))
        self.assertEqual(two_boards.numbers_at([1, None], 1), (0, 1))
        moments, courses = two_boards.shown_by([1, 0])
        self.assertIsNot(courses[0], courses[1])
        again = Visit([line, line], [0, 1, 0], [(0, 9), (0, 9)])
        self.assertEqual(again.clash([1, 0, 0]), (0, 2))

    def test_lines_that_nobody_looks_at(self):
        visit = Visit([doc_label(), doc_till(), doc_label()], [1], [], 13)
        moments, courses = visit.shown_by([1])
        self.assertEqual(moments, [13])
        self.assertEqual([line.is_course(course) for line, course in zip(visit.lines(), courses)], [True] * 3)
        self.assertIs(visit.is_shown([1], (moments, courses)), True)
        self.assertIs(visit.is_shown([1], (moments, courses[:2])), False)

    def test_clashes_in_their_order(self):
        label, till = doc_label(), doc_till()
        begun = Visit([label, till], [0, 1, 0], [(0, 3), (1, 1)], 16)
        self.assertEqual(begun.clash([0, 0, 0]), (0,))
        self.assertEqual(begun.clash([1, 0, 0]), (1,))
        self.assertEqual(begun.clash([1, 1, 0]), (2,))
        self.assertEqual(begun.clash([1, 2, 2]), (1,))
        self.assertIsNone(begun.clash([1, 1, 1]))
        free = doc_visit()
        self.assertEqual(free.clash([1, 0, 0]), (0, 2))
        self.assertEqual(free.clash([2, 0, 0]), (0, 1))
        self.assertEqual(free.clash([0, 2, 0]), (0, 1))
        self.assertEqual(free.clash([1, 2, 0]), (0, 2))
        # One look ahead of two, though its index is greater.
        late = Visit([label], [0, 0, 0], [(0, 0), (0, 50)], 12)
        self.assertEqual(late.clash([1, 0, 0]), (0, 1))
        self.assertEqual(late.clash([1, 0, 2]), (0, 1))
        self.assertEqual(Visit([label], [0, 0, 0], [(0, 0), (5, 5)], 12).clash([1, 0, 0]), (2,))
        # Two looks of which each can be by begun, but not both.
        apart = Visit([label, till], [0, 1, 0], [(0, 12), (0, 0)], 10)
        self.assertEqual(apart.clash([0, 1, 2]), None)
        self.assertEqual(apart.clash([0, 0, 2]), (1, 2))

    def test_five_looks(self):
        line = doc_label()
        visit = Visit([line, doc_till()], [0, 1, 0, 1, 0], [(0, 4), (1, 3), (0, 0), (2, 5)], 8)
        known = [numbers for numbers in every_numbers(visit) if visit.can_be(numbers)]
        self.assertEqual(sorted(map(tuple, known)), sorted(seen_numbers(visit)))
        for numbers in known:
            self.check_thing(visit, numbers, visit.shown_by(numbers))
        self.assertEqual(visit.numbers_at([None] * 5, 4), (0, 2))

    def test_no_changes_at_all(self):
        line = Line(Book(5), (0, 3))
        visit = Visit([line], [0, 0], [(2, 3)])
        moments, courses = visit.shown_by([0, 0])
        self.assertIn(moments[1] - moments[0], (2, 3))
        self.assertEqual(courses, [[]])
        self.assertIs(visit.is_shown([0, 0], ([-HUGE, 2 - HUGE], [[]])), True)
        self.assertIsNone(visit.clash([0, 0]))
        self.assertEqual(visit.numbers_at([None, None], 1), (0, 0))

    def test_moved_by_one_integer(self):
        visits = some_visits(5, 60) + [Visit([Line(Book(5), (0, 0)), doc_label()], [0, 0], [(1, 2)])]
        for visit in visits:
            for by in (7, -4, HUGE - 30):
                begun = None if visit.start() is None else visit.start() + by
                lines = [moved_line(line, by) for line in visit.lines()]
                moved = Visit(lines, visit.looks(), visit.gaps(), begun)
                for numbers in every_numbers(visit):
                    self.assertIs(moved.can_be(numbers), visit.can_be(numbers))
                    self.assertEqual(moved.clash(numbers), visit.clash(numbers))
                    thing = visit.shown_by(numbers)
                    if thing is not None:
                        moments = [moment + by for moment in thing[0]]
                        courses = [[moment + by for moment in course] for course in thing[1]]
                        self.assertIs(moved.is_shown(numbers, (moments, courses)), True)
                        self.assertEqual(moved.shown_by(numbers)[0], moments if any(
                            len(line.book) > 1 for line in lines) or begun is not None else thing[0])
                for index in range(len(visit.looks())):
                    told = [None] * len(visit.looks())
                    self.assertEqual(moved.numbers_at(told, index), visit.numbers_at(told, index))

    def test_great_numbers(self):
        book = Book(HUGE, [(-HUGE, 1), (HUGE, 2)])
        label, till = Line(book, (0, HUGE)), Line(book, (HUGE, HUGE))
        visit = Visit([label, till], [0, 1], [(HUGE, HUGE)], -HUGE)
        self.assertEqual([visit.can_be([0, 0]), visit.can_be([0, 1]), visit.can_be([1, 1]), visit.can_be([2, 1])],
                         [True, True, True, False])
        self.assertEqual(visit.clash([2, 1]), (0,))
        free = Visit([label, till], [0, 1], [(0, HUGE)])
        self.assertEqual(free.clash([2, 0]), (0, 1))
        self.assertIs(free.is_shown([1, 2], free.shown_by([1, 2])), True)
        self.assertEqual(free.numbers_at([1, None], 1), (0, 2))
        self.assertEqual(free.numbers_at([2, None], 1), (1, 2))
        self.assertEqual(Visit([label, till], [0, 1], [(HUGE, HUGE)]).numbers_at([None, 0], 0), (0, 1))

    def test_what_is_passed_stays_and_is_copied(self):
        lines, looks, gaps = [doc_label(), doc_till()], [0, 1, 0], [(0, 3), (1, 1)]
        visit = Visit(lines, looks, gaps)
        self.assertEqual([lines, looks, gaps], [[doc_label(), doc_till()], [0, 1, 0], [(0, 3), (1, 1)]])
        lines.clear()
        looks[0] = 1
        gaps.append((5, 5))
        self.assertEqual(visit, doc_visit())
        self.assertIs(visit.can_be([0, 1, 1]), True)
        numbers, told, thing = [0, 1, 1], [1, None, 2], ([13, 13, 14], [[13, 21], [13, 21]])
        for _ in range(2):
            visit.can_be(numbers)
            visit.clash(numbers)
            visit.shown_by(numbers)
            visit.is_shown(numbers, thing)
            self.assertEqual(visit.numbers_at(told, 1), (1, 2))
        self.assertEqual([numbers, told, thing],
                         [[0, 1, 1], [1, None, 2], ([13, 13, 14], [[13, 21], [13, 21]])])

    def test_what_is_returned_is_new(self):
        visit = doc_visit()
        for ask in (visit.lines, visit.looks, visit.gaps, lambda: visit.shown_by([0, 1, 1])[0],
                    lambda: visit.shown_by([0, 1, 1])[1], lambda: visit.shown_by([0, 1, 1])[1][0]):
            first = ask()
            second = ask()
            self.assertEqual(first, second)
            first.clear()
            self.assertEqual(ask(), second)
        self.assertEqual(visit, doc_visit())

    def test_lines_without_looks_keep_the_rest(self):
        for line in some_lines(6, 20):
            visit = Visit([line, line], [1], [])
            for number in range(len(line.book)):
                self.assertIs(visit.can_be([number]), True)
                self.check_thing(visit, [number], visit.shown_by([number]))


if __name__ == "__main__":
    unittest.main()
