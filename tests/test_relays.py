"""[91] Relays, with what [3], [4], [6] and [12] say of them."""

import unittest
from itertools import product
from random import Random

from helpers import (HUGE, Case, doc_book, doc_label, every_course, moments_around, numbers_shown, odd_values, shown_numbers,
                     shows, some_board, some_book, some_line)
from labeltill.books import Book
from labeltill.errors import Early, LabelError, NoNumber, NoPlace, Wrong
from labeltill.lines import Line
from labeltill.relays import Relay, relay_band, relay_overs


def doc_relay():
    return Relay(doc_book(), [(0, 4), (1, 2)])


def some_relay(random, places=3, changes=2, most=2):
    book = some_book(random, changes)
    if len(book) == 1 and random.random() < 0.8:
        book = Book(random.randint(0, 3), [(random.randint(0, 4), random.randint(0, 3))])
    sent = some_line(random, book, 0).sent()
    return Relay(book, [some_board(random, most) for _ in range(random.randint(1, places))], sent)


def every_courses(relay, boards=None, sent=None):
    """All courses of a relay, straight from their definition."""
    boards = relay.boards() if boards is None else boards
    if boards == []:
        return [[]]
    line = Line(relay.book, boards[0], relay.line(0).sent() if sent is None else sent)
    return [[course] + rest for course in every_course(line) for rest in every_courses(relay, boards[1:], course)]


def fall(looks):
    """Whether the numbers of looks at one place fall."""
    return any(one[0] == other[0] and other[2] < one[2] for index, one in enumerate(looks) for other in looks[index:])


def show_all(courses, looks):
    return all(shows(courses[place], number, moment) for place, moment, number in looks)


def can_by_hand(known, looks):
    """Whether looks can be of their numbers, by all courses."""
    return not fall(looks) and any(show_all(courses, looks) for courses in known)


def clash_by_hand(known, looks):
    """The least clash of looks, by all courses for each one and for each two of them."""
    for index, look in enumerate(looks):
        if not can_by_hand(known, [look]):
            return (index,)
    for index, look in enumerate(looks):
        for other in range(index + 1, len(looks)):
            if not can_by_hand(known, [look, looks[other]]):
                return index, other
    return None


def some_looks(random, relay, known, most):
    """Looks that are near to what some courses show, several at one moment among them, the later place ahead."""
    courses = random.choice(known)
    # Where the places can differ in what they show, looks can clash.
    lines = [relay.line(place) for place in range(len(relay))]
    turns = [moment for line in lines for begin, end in zip(line.earliest(), line.latest()) for moment in range(begin, end + 1)]
    moments = sorted(random.choice(turns + [-2, 9]) for _ in range(random.randint(0, most)))
    if len(moments) > 1 and random.random() < 0.5:
        moments[1] = moments[0]
    far = random.choice([0, 0.3, 0.8])
    looks = []
    for moment in moments:
        place = random.randrange(len(relay))
        number = random.choice(shown_numbers(courses[place], moment))
        if random.random() < far:
            number = random.choice(shown_numbers(random.choice(known)[place], moment))
        elif random.random() < 0.1:
            number = random.randrange(len(relay.book))
        looks.append((place, moment, number))
    return looks


class RelaysTest(Case):
    def test_of_the_document(self):
        relay = doc_relay()
        self.assertEqual([relay.line(1).board, relay.can_be([(0, 12, 1), (1, 14, 0)]), relay.clash_of([(0, 12, 1), (1, 15, 0)]),
                          relay.can_be([(0, 12, 0), (1, 12, 1)])], [(1, 6), True, (0, 1), False])
        self.assertEqual([relay_band(relay, 1, 0, (0, 3), 1), relay_band(relay, 0, 1, (0, 0), 1), relay_overs(relay, 1, 0, (0, 3))],
                         [(1, 2), (0, 1), [(1, 2)]])

    def test_wrong_arguments(self):
        book, boards = doc_book(), [(0, 4), (1, 2)]
        for thing in odd_values() + [300, [300], (300, [(10, 250)])]:
            if not isinstance(thing, Book):
                self.fails(Wrong, "place", 0, Relay, thing, boards)
        for thing in odd_values() + [
                [], (), 4, (0, 4), [0, 4], [(4, 0)], [(0, 4), (2, 1)], [(0, 4), None], [None], [(0, 4), (-1, 2)], [(0, True)],
                [(False, 4)], [(0, 4), [1, 2]], [[0, 4]], [(0,)], [(0, 4, 5)], [()], ["04"], {(0, 4)}, {(0, 4): 1},
                [(0, "4")], ((0, 4), (1, None)), [doc_label()]]:
            self.fails(Wrong, "place", 1, Relay, book, thing)
        for thing in [odd for odd in odd_values() if odd is not None] + [
                10, "ab", [10], [10, 20, 30], [10, None], [10, True], ["10", "20"], {10, 20}, {10: 0, 20: 0}, [[10], [20]],
                [(10, 20)], (10,), []]:
            self.fails(Wrong, "place", 2, Relay, book, boards, thing)
        # The first argument that is not as described.
        self.fails(Wrong, "place", 0, Relay, None, [], [1])
        self.fails(Wrong, "place", 0, Relay, True, boards, [9, 20])
        self.fails(Wrong, "place", 1, Relay, book, [], [1])
        self.fails(Wrong, "place", 1, Relay, book, [(0, 4), None], [9, 20])
        self.fails(Wrong, "place", 2, Relay, book, boards, sent=(10, "20"))

    def test_early(self):
        for sent, index in (([9, 20], 0), ([10, 19], 1), ([21, 20], 1), ((-HUGE, 0), 0), ((9, 19), 0), ([30, 29], 1)):
            with self.assertRaises(Early) as context:
                Relay(doc_book(), [(0, 4), (1, 2)], sent)
            self.assertEqual(context.exception.index, index)
        for arguments in ((None, []), (doc_book(), []), (doc_book(), [(0, 4)], [9, 20])):
            with self.assertRaises(LabelError):
                Relay(*arguments)
        for sent in ([10, 20], (10, 20), [20, 20], [HUGE, HUGE]):
            self.assertEqual(Relay(doc_book(), [(0, 4)], sent).line(0), Line(doc_book(), (0, 4), sent))

    def test_what_it_is(self):
        book = doc_book()
        relay = Relay(book, ((0, 4), (1, 2), (3, 3)))
        self.assertEqual([relay.book, relay.boards(), len(relay)], [book, [(0, 4), (1, 2), (3, 3)], 3])
        self.assertEqual([len(Relay(book, [(0, 0)])), len(Relay(Book(0), [(0, 1)] * 4, []))], [1, 4])

    def test_copied(self):
        boards, sent = [(0, 4), (1, 2)], [12, 20]
        relay = Relay(doc_book(), boards, sent)
        boards.append((9, 9))
        boards[0] = (7, 7)
        sent[0] = 0
        sent.clear()
        self.assertEqual([relay.boards(), len(relay), relay.line(1).sent()], [[(0, 4), (1, 2)], 2, [12, 20]])
        relay.boards().clear()
        relay.line(0).sent().append(9)
        self.assertEqual([relay.boards(), relay.line(0)], [[(0, 4), (1, 2)], Line(doc_book(), (0, 4), [12, 20])])

    def test_lines(self):
        relay = Relay(doc_book(), [(0, 4), (1, 2), (3, 3), (0, 0)], [12, 20])
        self.assertEqual([relay.line(place) for place in range(4)],
                         [Line(doc_book(), board, [12, 20]) for board in ((0, 4), (1, 6), (4, 9), (4, 9))])
        for thing in odd_values() + [4, 5, HUGE, "label", "1", 10 ** 999, (0,), [1]]:
            self.fails(NoPlace, "place", thing, relay.line, thing)
        self.fails(NoPlace, "place", True, Relay(Book(0), [(0, 0)] * 3).line, True)

    def test_lines_by_all_courses(self):
        random = Random(1)
        for _ in range(60):
            relay = some_relay(random)
            known = every_courses(relay)
            for place in range(len(relay)):
                line = relay.line(place)
                for moment in moments_around(line):
                    shown = {number for courses in known for number in shown_numbers(courses[place], moment)}
                    self.assertEqual(sorted(shown), [number for number in range(len(relay.book))
                                                     if line.can_show(number, moment)])

    def test_courses_by_trying_all(self):
        random = Random(2)
        for _ in range(40):
            relay = some_relay(random, 2, 2, 1)
            known = every_courses(relay)
            last = relay.line(len(relay) - 1)
            moments = range(min(relay.book.moments(), default=0) - 1, max(last.latest(), default=0) + 2)
            rows = [list(row) for row in product(moments, repeat=len(relay.book) - 1)]
            if len(rows) ** len(relay) < 15000:
                found = [list(thing) for thing in product(rows, repeat=len(relay)) if relay.is_courses(list(thing))]
                self.assertEqual(sorted(found), sorted(known))

    def test_courses_of_any_value(self):
        relay = doc_relay()
        good = [[12, 24], [13, 26]]
        self.assertIs(relay.is_courses(good), True)
        for thing in ([[10, 20], [11, 21]], [[14, 24], [16, 26]], [[10, 20], [12, 22]]):
            self.assertIs(relay.is_courses(thing), True)
        for thing in odd_values() + [
                [], tuple(good), good[:1], good[1:], good + [[14, 27]], good[::-1], [(12, 24), [13, 26]], [[12, 24], (13, 26)],
                [[12, 24], [13]], [[12], [13, 26]], [[12, 24, 25], [13, 26, 27]], [[12, 24], [12, 26]], [[12, 24], [15, 26]],
                [[12, 24], [13, 24]], [[12, 24], [13, 27]], [[9, 24], [11, 26]], [[15, 24], [16, 26]], [[12, 25], [13, 26]],
                [[12, 19], [13, 20]], [[24, 12], [13, 26]], [[12, 24], [26, 13]], [[12, 24], [13, None]], [[12, 24], [13, "26"]],
                [[12, 24], None], [None, [13, 26]], [[True, 24], [13, 26]], [[12, 24], [13, True]], [[[12], 24], [13, 26]],
                {0: good[0], 1: good[1]}, "ab", [[12, 24], {13: 0, 26: 0}], [[-HUGE, 24], [13, 26]], [[12, 24], [13, 10 ** 999]]]:
            self.assertIs(relay.is_courses(thing), False, thing)
        for odd in odd_values():
            for thing in ([odd, good[1]], [good[0], odd], [[odd, 24], [13, 26]], [[12, 24], [13, odd]]):
                self.assertIs(relay.is_courses(thing), False)

    def test_courses_at_their_edges(self):
        relay = Relay(doc_book(), [(0, 4), (1, 2), (0, 3)], [12, 20])
        good = [[12, 24], [13, 26], [16, 26]]
        self.assertIs(relay.is_courses(good), True)
        for place, index, by, known in ((0, 0, -1, False), (0, 0, 1, False), (0, 1, 1, False), (0, 1, -1, False),
                                        (1, 0, -1, False), (1, 0, 1, True), (1, 1, -1, True), (1, 1, 1, False),
                                        (2, 0, 1, False), (2, 0, -1, True), (2, 1, -1, False), (2, 1, 3, True), (2, 1, 4, False)):
            thing = [list(course) for course in good]
            thing[place][index] += by
            self.assertIs(relay.is_courses(thing), known, (place, index, by))
        # The moments of one place never fall, though each would lie within its bounds.
        wide = Relay(doc_book(), [(0, 30), (0, 30)])
        self.assertIs(wide.is_courses([[25, 25], [30, 30]]), True)
        self.assertIs(wide.is_courses([[26, 25], [30, 30]]), False)
        self.assertIs(wide.is_courses([[25, 25], [30, 29]]), False)

    def test_a_book_without_changes(self):
        relay = Relay(Book(5), [(0, 4), (1, 2)])
        self.assertEqual([relay.is_courses([[], []]), relay.is_courses([[]]), relay.is_courses([[], ()]), relay.is_courses([[], [1]])],
                         [True, False, False, False])
        looks = [(1, -HUGE, 0), (0, 3, 0), (1, HUGE, 0)]
        self.assertEqual([relay.can_be(looks), relay.clash_of(looks), relay.courses_with(looks)], [True, None, [[], []]])
        self.assertEqual([relay_band(relay, 0, 1, (0, 9), 0), relay_overs(relay, 1, 0, (0, 9))], [(0, 0), []])

    def test_looks_by_all_courses(self):
        random = Random(3)
        kinds = {"can": 0, "one": 0, "two": 0}
        for _ in range(400):
            relay = some_relay(random)
            known = every_courses(relay)
            for _ in range(12):
                looks = some_looks(random, relay, known, 5)
                can = can_by_hand(known, looks)
                clash = clash_by_hand(known, looks)
                # Each two of them are enough.
                self.assertIs(can, clash is None)
                self.assertIs(relay.can_be(looks), can)
                self.assertEqual(relay.clash_of(looks), clash)
                found = relay.courses_with(looks)
                if can:
                    self.assertIs(relay.is_courses(found), True)
                    self.assertIn(found, known)
                    self.assertTrue(show_all(found, looks))
                else:
                    self.assertIsNone(found)
                kinds["can" if can else "one" if len(clash) == 1 else "two"] += 1
        self.assertTrue(min(kinds.values()) > 150, kinds)

    def test_up_to_eight_looks_at_four_places(self):
        random = Random(4)
        can = 0
        for _ in range(80):
            relay = some_relay(random, 4, 2, 1)
            known = every_courses(relay)
            for _ in range(6):
                looks = some_looks(random, relay, known, 8)
                self.assertIs(relay.can_be(looks), can_by_hand(known, looks))
                self.assertEqual(relay.clash_of(looks), clash_by_hand(known, looks))
                if relay.can_be(looks):
                    can += 1
                    found = relay.courses_with(looks)
                    self.assertTrue(relay.is_courses(found) and show_all(found, looks))
        self.assertTrue(can > 150)

    def test_looks_at_one_place(self):
        relay = doc_relay()
        # At 12 the first place can show both, but in order they never fall.
        self.assertEqual([relay.clash_of([(0, 12, 0), (0, 12, 1)]), relay.clash_of([(0, 12, 1), (0, 12, 0)]),
                          relay.clash_of([(1, 12, 1), (1, 13, 0)]), relay.clash_of([(0, 12, 1), (1, 12, 0), (0, 13, 0)])],
                         [None, (0, 1), (0, 1), (0, 2)])
        self.assertEqual([relay.clash_of([(0, 9, 1)]), relay.clash_of([(0, 12, 1), (0, 9, 2)]), relay.clash_of([])],
                         [(0,), (1,), None])
        self.assertTrue(relay.is_courses(relay.courses_with([])))

    def test_one_index_comes_ahead_of_two(self):
        relay = doc_relay()
        self.assertEqual(relay.clash_of([(0, 12, 1), (0, 12, 0), (0, 13, 2)]), (2,))
        self.assertEqual(relay.clash_of([(0, 12, 1), (0, 12, 0), (0, 14, 0)]), (0, 1))
        self.assertEqual(relay.clash_of([(0, 12, 0), (0, 12, 1), (0, 12, 0)]), (1, 2))
        self.assertEqual(relay.clash_of([(1, 16, 0), (0, 13, 1), (1, 17, 0)]), (2,))

    def test_several_places_at_one_moment(self):
        relay = doc_relay()
        for looks, known in (([(0, 12, 0), (1, 12, 1)], False), ([(1, 12, 1), (0, 12, 0)], False),
                             ([(0, 12, 1), (1, 12, 0)], True), ([(1, 12, 0), (0, 12, 1)], True),
                             ([(1, 12, 0), (0, 12, 0)], True), ([(1, 12, 1), (0, 12, 1)], True),
                             ([(1, 14, 1), (0, 14, 0)], False)):
            self.assertIs(relay.can_be(looks), known)
        # A place that hears at once can be ahead of what is still seen at the one ahead, at just one moment.
        at_once = Relay(doc_book(), [(0, 4), (0, 2)])
        for looks, known in (([(1, 12, 1), (0, 12, 0)], True), ([(0, 12, 0), (1, 12, 1)], True),
                             ([(1, 12, 1), (0, 13, 0)], False), ([(1, 11, 1), (0, 12, 0)], False),
                             ([(0, 12, 0), (1, 13, 1)], True), ([(0, 11, 1), (1, 13, 0)], True),
                             ([(0, 11, 1), (1, 14, 0)], False)):
            self.assertIs(at_once.can_be(looks), known)
            if known:
                found = at_once.courses_with(looks)
                self.assertTrue(at_once.is_courses(found) and show_all(found, looks))

    def test_between_places_their_boards_count_alone(self):
        relay = Relay(doc_book(), [(0, 9), (1, 2), (3, 5)])
        # Number 0 at the first place at 12: the third one can show 1 from 12 + 1 + 3 on.
        for moment, known in ((15, False), (16, True), (36, True), (37, False)):
            self.assertIs(relay.can_be([(0, 12, 0), (2, moment, 1)]), known)
        # Number 1 at the first place at 12: the third one shows 0 up to 12 + 2 + 5.
        for moment, known in ((19, True), (20, False)):
            self.assertIs(relay.can_be([(0, 12, 1), (2, moment, 0)]), known)
            self.assertIs(relay.can_be([(0, 12, 1), (2, moment, 0), (1, moment, 1)]), known)
        self.assertIs(relay.can_be([(1, 14, 0), (2, 16, 1)]), False)
        self.assertIs(relay.can_be([(1, 14, 0), (2, 17, 1)]), True)

    def test_looks_without_a_place_or_a_number(self):
        relay = doc_relay()
        for call in (relay.can_be, relay.clash_of, relay.courses_with):
            for odd in odd_values() + [2, HUGE, "label"]:
                self.fails(NoPlace, "place", odd, call, [(odd, 12, 0)])
                # Place ahead of number, and the first look that has none.
                self.fails(NoPlace, "place", odd, call, [(odd, 12, None), (0, 12, None)])
                self.fails(NoPlace, "place", odd, call, [(0, 9, 1), (odd, 12, 9), (None, 12, 0)])
            for odd in odd_values() + [3, HUGE, "1"]:
                self.fails(NoNumber, "number", odd, call, [(1, 12, odd)])
                self.fails(NoNumber, "number", odd, call, [(0, 12, odd), (9, 12, 0)])
                self.fails(NoNumber, "number", odd, call, [(0, 9, 1), (0, 12, 1), (0, 12, 0), (1, 12, odd)])
        single = Relay(Book(0), [(0, 0)] * 3)
        self.fails(NoPlace, "place", True, single.can_be, [(True, 0, 0)])
        self.fails(NoNumber, "number", False, single.can_be, [(1, 0, False)])

    def test_bands_by_all_courses(self):
        random = Random(5)
        kinds = {"later": 0, "earlier": 0, "same": 0}
        for _ in range(40):
            relay = some_relay(random)
            known = every_courses(relay)
            gap = some_board(random, 3)
            moments = moments_around(relay.line(len(relay) - 1))
            for first, second in product(range(len(relay)), repeat=2):
                met = set()
                for courses in known:
                    for moment, wait in product(moments, range(gap[0], gap[1] + 1)):
                        met |= {(number, other) for number in shown_numbers(courses[first], moment)
                                for other in shown_numbers(courses[second], moment + wait)
                                if first != second or number <= other}
                for number in range(len(relay.book)):
                    others = [other for one, other in met if one == number]
                    self.assertEqual(relay_band(relay, first, second, gap, number), (min(others), max(others)))
                prices = relay.book.prices()
                self.assertEqual(relay_overs(relay, first, second, gap),
                                 sorted((one, other) for one, other in met if prices[other] > prices[one]))
                kinds["later" if first < second else "earlier" if first > second else "same"] += 1
        self.assertTrue(min(kinds.values()) > 30, kinds)

    def test_bands_at_one_moment(self):
        relay = Relay(doc_book(), [(0, 4), (0, 2)])
        self.assertEqual([relay_band(relay, 1, 0, (0, 0), number) for number in range(3)], [(0, 1), (0, 2), (1, 2)])
        self.assertEqual([relay_band(relay, 1, 0, (1, 1), number) for number in range(3)], [(0, 1), (1, 2), (2, 2)])
        self.assertEqual([relay_band(relay, 0, 1, (0, 0), number) for number in range(3)], [(0, 1), (0, 2), (1, 2)])
        self.assertEqual([relay_band(relay, 0, 1, (2, 3), number) for number in range(3)], [(0, 1), (0, 2), (1, 2)])
        self.assertEqual([relay_band(relay, 0, 1, (3, 3), number) for number in range(3)], [(0, 1), (1, 2), (2, 2)])
        self.assertEqual([relay_band(relay, 0, 0, (0, 0), number) for number in range(3)], [(0, 1), (1, 2), (2, 2)])
        self.assertEqual([relay_overs(relay, 1, 0, (0, 0)), relay_overs(relay, 1, 0, (1, 1)), relay_overs(relay, 0, 0, (0, 20))],
                         [[(1, 0), (1, 2)], [(1, 2)], [(0, 2), (1, 2)]])

    def test_moved_and_scaled(self):
        random = Random(6)
        for _ in range(40):
            relay = some_relay(random)
            looks = some_looks(random, relay, every_courses(relay), 4)
            gap = some_board(random, 3)
            pairs = list(product(range(len(relay)), repeat=2))
            for by in (HUGE, -HUGE):
                moved = Relay(relay.book.moved(by), relay.boards(), [moment + by for moment in relay.line(0).sent()])
                told = [(place, moment + by, number) for place, moment, number in looks]
                self.assertEqual(moved.clash_of(told), relay.clash_of(looks))
                found = relay.courses_with(looks)
                self.assertEqual(moved.courses_with(told),
                                 None if found is None else [[moment + by for moment in course] for course in found])
                for first, second in pairs:
                    self.assertEqual(relay_overs(moved, first, second, gap), relay_overs(relay, first, second, gap))
                    for number in range(len(relay.book)):
                        self.assertEqual(relay_band(moved, first, second, gap, number),
                                         relay_band(relay, first, second, gap, number))
            scaled = Relay(relay.book.scaled(7), relay.boards(), relay.line(0).sent())
            self.assertEqual(scaled.courses_with(looks), relay.courses_with(looks))
            for first, second in pairs:
                self.assertEqual(relay_overs(scaled, first, second, gap), relay_overs(relay, first, second, gap))

    def test_great_numbers(self):
        book = Book(HUGE, [(-HUGE, HUGE - 1), (HUGE, HUGE)])
        relay = Relay(book, [(0, HUGE), (HUGE, HUGE), (0, 0)])
        self.assertEqual([relay.line(2).board, relay.line(1).window(1)], [(HUGE, 2 * HUGE), (0, 3 * HUGE)])
        looks = [(0, -1, 0), (2, HUGE, 1), (1, 3 * HUGE, 2)]
        self.assertEqual([relay.can_be(looks), relay.courses_with(looks)],
                         [True, [[-1, HUGE], [HUGE - 1, 2 * HUGE], [HUGE - 1, 2 * HUGE]]])
        self.assertEqual([relay.clash_of([(0, -1, 0), (2, HUGE - 2, 1)]), relay.clash_of([(0, -1, 1), (2, HUGE, 0)]),
                          relay.clash_of([(0, -1, 1), (2, HUGE - 1, 0)])], [(0, 1), (0, 1), None])
        self.assertEqual([relay_band(relay, 0, 2, (0, HUGE), 0), relay_band(relay, 0, 2, (HUGE + 1, 3 * HUGE), 1),
                          relay_overs(relay, 2, 0, (0, HUGE))], [(0, 1), (1, 2), [(1, 2)]])
        self.assertIs(relay.is_courses([[0, HUGE], [HUGE, 2 * HUGE], [HUGE, 2 * HUGE]]), True)
        self.assertIs(relay.is_courses([[0, HUGE], [HUGE, 2 * HUGE + 1], [HUGE, 2 * HUGE + 1]]), False)

    def test_twelve_changes_and_four_places(self):
        book = Book(0, [(10 * index, index + 1) for index in range(12)])
        relay = Relay(book, [(0, 4), (1, 2), (0, 9), (3, 3)])
        looks = [(place, 60 + 5 * place, 6) for place in range(4)] + [(3, 80, 7), (2, 81, 7), (1, 82, 8), (0, 83, 8)]
        found = relay.courses_with(looks)
        self.assertTrue(relay.is_courses(found) and show_all(found, looks))
        self.assertEqual([relay.clash_of(looks[:7] + [(3, 84, 6)]), relay.clash_of(looks[:1] + [(3, 75, 7), (3, 76, 6)])],
                         [(7,), (1, 2)])
        self.assertEqual(relay_band(relay, 0, 3, (0, 30), 5), (3, 9))

    def test_asked_by_turns(self):
        relay, other = doc_relay(), Relay(doc_book(), [(1, 1), (0, 9)], [12, 30])
        looks = [(0, 13, 1), (1, 14, 0)]
        for _ in range(3):
            found = relay.courses_with(looks)
            self.assertEqual([found, other.courses_with(looks)], [[[12, 20], [14, 21]], [[13, 31], [14, 31]]])
            self.assertTrue(relay.is_courses(found) and show_all(found, looks))
            self.assertIsNot(found[0], found[1])
            found[0].clear()
            found.append([])
            self.assertNotEqual(relay.courses_with(looks), found)
            self.assertEqual([relay_band(relay, 0, 1, (0, 0), 1), relay_band(other, 0, 1, (0, 0), 1)], [(0, 1), (0, 2)])
            pairs = relay_overs(relay, 1, 0, (0, 3))
            self.assertEqual([pairs, relay_overs(other, 1, 0, (0, 3))], [[(1, 2)], [(1, 0), (1, 2)]])
            pairs.clear()
            thing = [[12, 24], [13, 26]]
            self.assertEqual([relay.is_courses(thing), other.is_courses(thing)], [True, False])
            self.assertEqual(thing, [[12, 24], [13, 26]])
        self.assertEqual([relay.boards(), relay.book, looks], [[(0, 4), (1, 2)], doc_book(), [(0, 13, 1), (1, 14, 0)]])

    def test_courses_are_lists_of_their_own(self):
        relay = Relay(doc_book(), [(0, 0), (0, 0), (0, 0)])
        found = relay.courses_with([])
        self.assertEqual(found, [[10, 20]] * 3)
        found[0].append(1)
        self.assertEqual(found[1:], [[10, 20]] * 2)
        self.assertEqual([number for number in range(3) if number in numbers_shown(relay.line(2), 10)], [0, 1])


if __name__ == "__main__":
    unittest.main()
