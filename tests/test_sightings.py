"""[70] Sightings, [5] windows and [10] receipts, with what [3], [4] and [12] say of them."""

import unittest
from itertools import product
from random import Random

from helpers import (HUGE, Case, doc_label, every_course, moments_around, moved_line, numbers_shown, odd_values,
                     scaled_line, shown_numbers, some_book, some_line)
from labeltill.books import Book
from labeltill.lines import Line
from labeltill.sightings import (course_for, denial, greatest_numbers, is_denial, is_seen, least_numbers, numbers_at,
                                 numbers_of, prices_seen_at, seen_numbers, surely_at)


def some_sightings(random, line, most):
    """Sightings of a line, mostly such as it can show, several at one moment among them."""
    moments = moments_around(line)
    at = [random.choice(moments) for _ in range(random.randint(0, most))]
    if len(at) > 2 and random.random() < 0.5:
        at[1] = at[0]
    found = []
    for moment in sorted(at):
        low, high = line.stretch(moment)
        found.append((moment, random.choice([line.book[random.randint(low, high)]] * 4 + [random.randint(0, 4)])))
    return found


def some_settings(seed, many, most=4):
    """Tuples of a line and of sightings at it."""
    random = Random(seed)
    found = []
    for _ in range(many):
        line = some_line(random, some_book(random, random.randint(0, 3)), 2)
        found.append((line, some_sightings(random, line, most)))
    return found


def rows_in(course, line, sightings):
    """The lists of numbers, never falling, that the sightings can be of in a course."""
    rows = [[]]
    for moment, price in sightings:
        shown = [number for number in shown_numbers(course, moment) if price is None or line.book[number] == price]
        rows = [row + [number] for row in rows for number in shown if row == [] or row[-1] <= number]
    return rows


def every_row(line, sightings):
    """The lists of numbers that the sightings can be of together, by trying all courses."""
    return sorted({tuple(row) for course in every_course(line) for row in rows_in(course, line, sightings)})


def numbers_at_by_hand(line, sightings, moment):
    """The numbers of a further look, in each place among the sightings of its moment, by trying all courses."""
    found = set()
    for place in range(len(sightings) + 1):
        looks = sightings[:place] + [(moment, None)] + sightings[place:]
        if [at for at, _ in looks] == sorted(at for at, _ in looks):
            found |= {row[place] for row in every_row(line, looks)}
    return sorted(found)


def denies(line, sightings, thing):
    """Whether a list of integers is a denial, straight from the definition."""
    if len(thing) >= len(sightings):
        return False
    sets = [[number for number in numbers_shown(line, moment) if line.book[number] == price]
            for moment, price in sightings]
    for index, item in enumerate(thing):
        ahead = 0 if index == 0 else thing[index - 1]
        if any(number < item and not number < ahead for number in sets[index]):
            return False
    last = thing[-1] if thing else 0
    return not any(number >= last for number in sets[len(thing)])


class SightingsTest(Case):
    def test_of_the_document(self):
        label = doc_label()
        self.assertEqual(seen_numbers(label, [(12, 250), (20, 250)]), [[1], [1]])
        self.assertEqual([numbers_at(label, [(12, 250)], 12), surely_at(label, [(12, 250)], 19)], [[0, 1], 250])
        self.assertEqual([is_seen(label, [(12, 250), (13, 300)]), denial(label, [(12, 250), (13, 300)]),
                          denial(label, [(15, 300)])], [False, [1], []])

    def test_numbers_of(self):
        for line, _ in some_settings(1, 60):
            for moment in moments_around(line):
                shown = numbers_shown(line, moment)
                for price in range(5):
                    self.assertEqual(numbers_of(line, (moment, price)),
                                     [number for number in shown if line.book[number] == price])
        again = Line(Book(1, [(0, 2), (1, 1), (2, 2)]), (0, 9))
        self.assertEqual([numbers_of(again, (5, 1)), numbers_of(again, (5, 2)), numbers_of(again, (5, 3)),
                          numbers_of(again, (-1, 1)), numbers_of(again, (12, 2)), numbers_of(again, (1, 2))],
                         [[0, 2], [1, 3], [], [0], [3], [1]])

    def test_all_courses(self):
        seen = 0
        for line, sightings in some_settings(2, 400):
            rows = every_row(line, sightings)
            self.assertIs(is_seen(line, sightings), rows != [])
            if rows:
                seen += len(sightings) > 1
                columns = [sorted(set(column)) for column in zip(*rows)]
                self.assertEqual(seen_numbers(line, sightings), columns)
                self.assertEqual(least_numbers(line, sightings), [column[0] for column in columns])
                self.assertEqual(greatest_numbers(line, sightings), [column[-1] for column in columns])
                course = course_for(line, sightings)
                self.assertIs(line.is_course(course), True)
                self.assertNotEqual(rows_in(course, line, sightings), [])
                self.assertIsNone(denial(line, sightings))
            else:
                for call in (seen_numbers, least_numbers, greatest_numbers, course_for):
                    self.assertIsNone(call(line, sightings))
                found = denial(line, sightings)
                self.assertIs(found.__class__, list)
                self.assertTrue(denies(line, sightings, found))
                self.assertIs(is_denial(line, sightings, found), True)
        self.assertTrue(80 < seen < 300)

    def test_a_further_look(self):
        for line, sightings in some_settings(3, 120):
            for moment in moments_around(line):
                known = numbers_at_by_hand(line, sightings, moment)
                self.assertEqual(numbers_at(line, sightings, moment), known)
                prices = sorted({line.book[number] for number in known})
                self.assertEqual(prices_seen_at(line, sightings, moment), prices)
                self.assertEqual(surely_at(line, sightings, moment), prices[0] if len(prices) == 1 else None)

    def test_up_to_ten_sightings(self):
        random = Random(4)
        for _ in range(40):
            line = some_line(random, some_book(random, 4), 3)
            course = random.choice(every_course(line))
            sightings, number = [], 0
            for moment in sorted(random.choice(moments_around(line)) for _ in range(10)):
                number = random.choice([shown for shown in shown_numbers(course, moment) if shown >= number])
                sightings.append((moment, line.book[number]))
            rows = every_row(line, sightings)
            self.assertIs(is_seen(line, sightings), True)
            self.assertEqual(seen_numbers(line, sightings), [sorted(set(column)) for column in zip(*rows)])
            for moment in (sightings[0][0], sightings[5][0], sightings[9][0], sightings[9][0] + 1):
                self.assertEqual(numbers_at(line, sightings, moment), numbers_at_by_hand(line, sightings, moment))
            wrong = sightings[:9] + [(sightings[9][0], 9)]
            self.assertTrue(denies(line, wrong, denial(line, wrong)))
            self.assertEqual(len(denial(line, wrong)), 9)

    def test_no_sightings(self):
        label = doc_label()
        self.assertIs(is_seen(label, []), True)
        self.assertEqual([least_numbers(label, []), greatest_numbers(label, []), seen_numbers(label, [])], [[], [], []])
        self.assertIs(label.is_course(course_for(label, [])), True)
        self.assertIsNone(denial(label, []))
        for thing in odd_values() + [[], [0], [1]]:
            self.assertIs(is_denial(label, [], thing), False)
        self.assertEqual([numbers_at(label, [], 12), prices_seen_at(label, [], 12), surely_at(label, [], 12),
                          surely_at(label, [], 5)], [[0, 1], [250, 300], None, 300])
        plain = Line(Book(0), (1, 5))
        self.assertEqual([numbers_at(plain, [], 0), prices_seen_at(plain, [(3, 0)], -3), surely_at(plain, [], 9)],
                         [[0], [0], 0])
        self.assertEqual([course_for(plain, [(3, 0)]), seen_numbers(plain, [(3, 0)]), denial(plain, [(3, 1)])],
                         [[], [[0]], []])

    def test_sightings_that_cannot_be(self):
        label = doc_label()
        for sightings in ([(15, 300)], [(12, 7)], [(12, 250), (13, 300)], [(12, 250), (12, 300)], [(9, 250)],
                          [(12, 300), (12, 250), (12, 300)]):
            for call in (course_for, least_numbers, greatest_numbers, seen_numbers):
                self.assertIsNone(call(label, sightings))
            for moment in (-HUGE, 9, 12, 13, 15, HUGE):
                self.assertEqual([numbers_at(label, sightings, moment), prices_seen_at(label, sightings, moment)], [[], []])
                self.assertIsNone(surely_at(label, sightings, moment))

    def test_several_at_one_moment(self):
        label = doc_label()
        both = [(12, 300), (12, 250)]
        self.assertEqual([is_seen(label, both), is_seen(label, both[::-1])], [True, False])
        self.assertEqual([seen_numbers(label, both), course_for(label, both)], [[[0], [1]], [12, 20]])
        self.assertEqual([numbers_at(label, both, moment) for moment in (11, 12, 13, 20)], [[0], [0, 1], [1], [1, 2]])
        self.assertEqual(denial(label, both[::-1]), [1])
        # Between three looks at one moment there is room for what lies between them alone.
        line = Line(Book(1, [(0, 2), (1, 1), (2, 2), (3, 5)]), (0, 9))
        three = [(5, 2), (5, 1), (5, 2)]
        self.assertEqual(seen_numbers(line, three), [[1], [2], [3]])
        self.assertEqual([numbers_at(line, three, moment) for moment in (4, 5, 6)], [[0, 1], [0, 1, 2, 3, 4], [3, 4]])
        self.assertEqual(numbers_at(line, [(5, 2), (5, 2), (5, 2)], 5), [0, 1, 2, 3, 4])
        self.assertEqual(numbers_at(line, [(4, 2), (5, 1), (6, 2)], 5), [1, 2, 3])

    def test_prices_that_come_again(self):
        line = Line(Book(1, [(0, 2), (1, 1), (2, 2)]), (0, 9))
        self.assertEqual(seen_numbers(line, [(5, 1), (6, 1)]), [[0, 2], [0, 2]])
        self.assertEqual(seen_numbers(line, [(5, 1), (6, 2), (7, 1)]), [[0], [1], [2]])
        self.assertEqual([least_numbers(line, [(5, 2), (6, 2)]), greatest_numbers(line, [(5, 2), (6, 2)])],
                         [[1, 1], [3, 3]])
        self.assertEqual(denial(line, [(5, 2), (6, 1), (7, 2), (8, 1)]), [1, 2, 3])
        self.assertEqual([surely_at(line, [(5, 1), (6, 1)], 5), surely_at(line, [(5, 2), (6, 1), (7, 2)], 6),
                          prices_seen_at(line, [(5, 2), (6, 1), (7, 1)], 6), surely_at(line, [(5, 2), (6, 1)], 12)],
                         [None, None, [1, 2], 2])

    def test_one_price_of_several_numbers_is_sure(self):
        line = Line(Book(1, [(0, 1), (1, 0), (2, 0)]), (0, 5))
        self.assertEqual([numbers_at(line, [(3, 0)], 6), surely_at(line, [(3, 0)], 6), surely_at(line, [], 0)],
                         [[2, 3], 0, 1])

    def test_denials_are_what_the_definition_says(self):
        denied = 0
        for line, sightings in some_settings(5, 120, 3):
            many = len(line.book) + 1
            found = [list(thing) for length in range(len(sightings) + 2)
                     for thing in product(range(many + 1), repeat=length) if is_denial(line, sightings, list(thing))]
            known = [list(thing) for length in range(len(sightings) + 2)
                     for thing in product(range(many + 1), repeat=length) if denies(line, sightings, list(thing))]
            self.assertEqual(found, known)
            # Sightings can be if and only if there is no denial of them.
            self.assertIs(is_seen(line, sightings), known == [])
            denied += known != []
        self.assertTrue(25 < denied < 100)

    def test_denials_of_any_value(self):
        label = doc_label()
        sightings = [(12, 250), (13, 300), (14, 250)]
        self.assertIs(is_denial(label, sightings, [1]), True)
        for thing in odd_values() + [(1,), [2], [0], [1, 1], [1, 0], [1, 1, 1], [-1], [True], [None], ["1"], [[1]], {1: 1},
                                     "1", 1, b"\x01", [1, None], [1, True], [1, -1], [HUGE], {0: 1}, [(1,)]]:
            self.assertIs(is_denial(label, sightings, thing), False)
        self.assertIs(is_denial(label, [(15, 300)], []), True)
        for thing in odd_values() + [[0], (), "", {}]:
            self.assertIs(is_denial(label, [(15, 300)], thing), False)
        # An item may be as great as no number of its sighting, by itself, is less.
        late = [(30, 400), (31, 7), (32, 7)]
        for thing, known in (([2], True), ([0], True), ([3], False), ([2, 9], True), ([2, 0], True), ([2, 9, 9], False),
                             ([2, HUGE], True), ([2, 10 ** 999], True), ([], False), ([2, True], False),
                             ([False], False), ([2, -1], False)):
            self.assertIs(is_denial(label, late, thing), known)

    def test_items_that_fall(self):
        # Behind a 2 no number is both less than 1 and not less than 2; what is less than 1 is left, then, is none.
        line = Line(Book(1, [(0, 2), (1, 3)]), (0, 0))
        self.assertEqual(denial(line, [(5, 3), (6, 3), (7, 1)]), [2, 2])
        self.assertIs(is_denial(line, [(5, 3), (6, 3), (7, 1)], [2, 1]), True)
        self.assertIs(is_denial(line, [(5, 3), (6, 3), (7, 1)], [2, 0]), True)
        self.assertIs(is_denial(line, [(5, 3), (6, 3), (7, 3)], [2, 0]), False)

    def test_moved_and_scaled(self):
        for line, sightings in some_settings(6, 80):
            for by in (HUGE, -HUGE):
                moved = moved_line(line, by)
                looks = [(moment + by, price) for moment, price in sightings]
                for call in (seen_numbers, least_numbers, greatest_numbers, denial, is_seen):
                    self.assertEqual(call(moved, looks), call(line, sightings))
                course = course_for(line, sightings)
                self.assertEqual(course_for(moved, looks), None if course is None else [at + by for at in course])
                for moment in moments_around(line):
                    self.assertEqual(numbers_at(moved, looks, moment + by), numbers_at(line, sightings, moment))
                    self.assertEqual(surely_at(moved, looks, moment + by), surely_at(line, sightings, moment))
            scaled, looks = scaled_line(line, 7), [(moment, 7 * price) for moment, price in sightings]
            for call in (seen_numbers, course_for, denial):
                self.assertEqual(call(scaled, looks), call(line, sightings))
            for moment in moments_around(line):
                self.assertEqual(prices_seen_at(scaled, looks, moment),
                                 [7 * price for price in prices_seen_at(line, sightings, moment)])

    def test_great_numbers(self):
        line = Line(Book(HUGE, [(-HUGE, HUGE - 1), (HUGE, HUGE)]), (0, 2 * HUGE))
        sightings = [(0, HUGE), (HUGE, HUGE - 1), (2 * HUGE, HUGE)]
        self.assertEqual([seen_numbers(line, sightings), course_for(line, sightings)], [[[0], [1], [2]], [0, HUGE]])
        self.assertEqual([numbers_at(line, sightings[:2], HUGE), surely_at(line, sightings[1:], 2 * HUGE)], [[0, 1, 2], None])
        self.assertEqual([numbers_at(line, sightings[:1], 1), surely_at(line, sightings, 3 * HUGE)], [[0, 1], HUGE])
        self.assertEqual(denial(line, [(0, HUGE - 1), (HUGE, HUGE), (HUGE, HUGE - 1)]), [1, 2])
        self.assertEqual(seen_numbers(line, [(-HUGE, HUGE), (-HUGE, HUGE - 1)]), [[0], [1]])
        self.assertIsNone(seen_numbers(line, [(-HUGE - 1, HUGE - 1)]))

    def test_twelve_changes(self):
        line = Line(Book(0, [(moment, (moment + 1) % 2) for moment in range(12)]), (0, HUGE))
        sightings = [(12, number % 2) for number in range(10)]
        self.assertEqual(seen_numbers(line, sightings), [[number, number + 2] for number in range(10)])
        self.assertEqual(numbers_at(line, sightings, 12), list(range(13)))
        self.assertEqual(numbers_at(line, sightings, 13), [9, 10, 11, 12])
        self.assertEqual(numbers_at(line, [(11, 0), (12, 1), (13, 0)], 12), list(range(13)))

    def test_asked_by_turns(self):
        label, early = doc_label(), Line(doc_label().book, (0, 1))
        first, second = [(12, 250), (20, 250)], [(12, 300), (13, 250)]
        for _ in range(3):
            found = seen_numbers(label, first)
            self.assertEqual([found, seen_numbers(label, second), seen_numbers(early, first), seen_numbers(early, second)],
                             [[[1], [1]], [[0], [1]], [[1], [1]], None])
            self.assertIsNot(found[0], found[1])
            found[0].clear()
            found.clear()
            for call, known in ((least_numbers, [1, 1]), (greatest_numbers, [1, 1]), (course_for, [10, 20])):
                found = call(label, first)
                self.assertEqual(found, known)
                found.append(9)
            self.assertEqual(numbers_of(label, (12, 250)), [1])
            numbers_of(label, (12, 250)).clear()
            numbers_at(label, first, 20).clear()
            self.assertEqual([numbers_at(label, first, 20), numbers_at(early, first, 20)], [[1, 2], [1, 2]])
            found = denial(early, second)
            self.assertEqual(found, [])
            found.append(0)
            thing = [1]
            self.assertIs(is_denial(label, [(12, 250), (13, 300)], thing), True)
            self.assertEqual(thing, [1])
        self.assertEqual([label, first, second], [doc_label(), [(12, 250), (20, 250)], [(12, 300), (13, 250)]])


if __name__ == "__main__":
    unittest.main()
