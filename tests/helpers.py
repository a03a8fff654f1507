"""What the tests share: odd values, and lines that are small enough to try all of their courses."""

import unittest
from itertools import combinations, product
from random import Random

from labeltill.books import Book
from labeltill.lines import Line

HUGE = 10 ** 30


class Case(unittest.TestCase):
    """A test case that can ask which error a call raises, and with which object."""

    def fails(self, error, field, value, call, *arguments, **named):
        with self.assertRaises(error) as context:
            call(*arguments, **named)
        self.assertIs(getattr(context.exception, field), value)


def nested(depth):
    thing = []
    for _ in range(depth):
        thing = [thing]
    return thing


def odd_values():
    """Values that are neither an integer from 0 on, nor a tuple of two integers, nor a list of such."""
    return [None, True, False, "", "0", "till", b"", b"0", (), (0,), [0], {}, {0: 0}, -1, -HUGE, {1, 2}, frozenset(),
            nested(15), (((0,),),), ["x" * 4000], object(), int, slice(0, 1), Book(0), Line(Book(0), (0, 0))]


def doc_book():
    return Book(300, [(10, 250), (20, 400)])


def doc_label():
    return Line(doc_book(), (0, 4))


def doc_till():
    return Line(doc_book(), (1, 2), [12, 20])


def some_book(random, most=2):
    moments = sorted(random.sample(range(5), random.randint(0, most)))
    return Book(random.randint(0, 3), [(moment, random.randint(0, 3)) for moment in moments])


def some_board(random, most=3):
    least = random.randint(0, most)
    return least, random.randint(least, most)


def some_line(random, book, most=3):
    if random.random() < 0.4:
        return Line(book, some_board(random, most))
    sent = []
    for moment in book.moments():
        sent.append(max([moment] + sent) + random.choice([0, 0, 1, 3]))
    return Line(book, some_board(random, most), sent)


def some_lines(seed, many, most=2):
    random = Random(seed)
    return [some_line(random, some_book(random, most)) for _ in range(many)]


def some_pairs(seed, many, most=2):
    """Tuples of a label and a till of one book, and a gap."""
    random = Random(seed)
    pairs = []
    for _ in range(many):
        book = some_book(random, most)
        pairs.append((some_line(random, book, 2), some_line(random, book, 2), some_board(random, 2)))
    return pairs


def moved_line(line, by):
    return Line(line.book.moved(by), line.board, [moment + by for moment in line.sent()])


def scaled_line(line, by):
    return Line(line.book.scaled(by), line.board, line.sent())


def every_course(line):
    """All courses of a line, straight from their definition."""
    least, most = line.board
    spans = [range(moment + least, moment + most + 1) for moment in line.sent()]
    return [list(course) for course in product(*spans) if list(course) == sorted(course)]


def shows(course, number, moment):
    """Whether a board shows a number at a moment in a course, straight from the definition."""
    taken = number == 0 or course[number - 1] <= moment
    left = number < len(course) and course[number] < moment
    return taken and not left


def shown_numbers(course, moment):
    return [number for number in range(len(course) + 1) if shows(course, number, moment)]


def numbers_shown(line, moment):
    """The numbers that a line can show at a moment, by trying all courses."""
    return sorted({number for course in every_course(line) for number in shown_numbers(course, moment)})


def moments_around(*lines):
    """A range that holds all moments at which one of some lines can change what it shows, and some more."""
    known = [moment for line in lines for moment in line.book.moments() + line.earliest() + line.latest()]
    return range(min(known, default=0) - 4, max(known, default=0) + 5)


def some_plan(random, book, most=4):
    """A plan of a book, each moment some moments later than it must be."""
    plan = [], []
    for sent in plan:
        for moment in book.moments():
            sent.append(max([moment] + sent[-1:]) + random.choice([0, 0, random.randint(0, most)]))
    return plan


def moved_plan(plan, by):
    return tuple([moment + by for moment in sent] for sent in plan)


def way_of(order):
    """The cells of the way of an order, straight from the definition."""
    return [(order[:many].count("L"), order[:many].count("T")) for many in range(len(order) + 1)]


def good_orders(book):
    """The ascending list of the good orders of a book, by trying all orders."""
    many = len(book) - 1
    found = []
    for places in combinations(range(2 * many), many):
        order = "".join("L" if place in places else "T" for place in range(2 * many))
        if all(book[other] <= book[one] for one, other in way_of(order)):
            found.append(order)
    return sorted(found)
