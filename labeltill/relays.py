"""Relays: rows of places of which each hears of the changes from the place ahead of it."""

from labeltill.books import Book, check_number
from labeltill.errors import NoPlace, Wrong
from labeltill.kinds import is_board, is_index
from labeltill.lines import Line
from labeltill.spans import EVER, behind, is_within, overlap


class Relay:
    """A book, the boards of a row of places, and the moments at which the changes are sent to the first place."""

    def __init__(self, book, boards, sent=None):
        if not isinstance(book, Book):
            raise Wrong(0)
        if not _are_boards(boards):
            raise Wrong(1)
        first = Line(book, boards[0], sent)
        self._book = book
        self._boards = tuple(boards)
        self._sent = tuple(first.sent())

    def __len__(self):
        return len(self._boards)

    @property
    def book(self):
        """The Book of the relay."""
        return self._book

    def boards(self):
        """The list of the boards of the places."""
        return list(self._boards)

    def line(self, place):
        """The Line that shows just what a place by itself can show."""
        if not is_index(place, len(self._boards)):
            raise NoPlace(place)
        return Line(self._book, self._between(0, place + 1), self._sent)

    def _between(self, begin, end):
        """The board that hears as late as the places from one up to ahead of another one do together."""
        boards = self._boards[begin:end]
        return sum([least for least, _ in boards]), sum([most for _, most in boards])

    def is_courses(self, thing):
        """Whether any value is a list of one course for each place, each fed by the one ahead."""
        if not isinstance(thing, list) or len(thing) != len(self._boards):
            return False
        sent = self._sent
        for board, course in zip(self._boards, thing):
            if not Line(self._book, board, sent).is_course(course):
                return False
            sent = course
        return True

    def can_be(self, looks):
        """Whether looks (place, moment, number) can be of their numbers."""
        return self.clash_of(looks) is None

    def clash_of(self, looks):
        """The least tuple of one look, or else of two looks, that cannot be, None if all can."""
        self._check(looks)
        for index, (place, moment, number) in enumerate(looks):
            if not self.line(place).can_show(number, moment):
                return (index,)
        for index, look in enumerate(looks):
            for other in range(index + 1, len(looks)):
                if not self._can_both(look, looks[other]):
                    return index, other
        return None

    def _check(self, looks):
        """Raises NoPlace or NoNumber for the first look that has no place, or no number."""
        for place, _, number in looks:
            self.line(place)
            check_number(self._book, number)

    def _can_both(self, look, later):
        """Whether two looks, each in its window, can be together."""
        place, moment, number = look
        second, following, other = later
        waits = self.waits(place, second, number, other)
        return waits is not None and is_within(waits, following - moment)

    def waits(self, first, second, number, other):
        """The span of how much later than a number at the first place another one can be seen at the second place.

        None if it cannot be at all; what the windows leave is not looked at.
        """
        if number == other:
            return EVER
        if first == second:
            return None if other < number else EVER
        if first > second:
            least, most = self._between(second + 1, first + 1)
            return (None, -least) if other < number else (-most, None)
        least, most = self._between(first + 1, second + 1)
        return (least, None) if number < other else (None, most)

    def courses_with(self, looks):
        """Courses that show the looks, or None."""
        if self.clash_of(looks) is not None:
            return None
        many = range(len(self._sent))
        return [[self._taking_over(place, index, looks) for index in many] for place in range(len(self._boards))]

    def _taking_over(self, place, index, looks):
        """The least moment at which a place can take the change with an index over beside all looks."""
        held = [self._held_up(place, look) for look in looks if look[2] <= index]
        return max([self.line(place).earliest()[index]] + held)

    def _held_up(self, place, look):
        """The least moment to which a place is held up by a look at a number that is not left yet."""
        seen, moment, _ = look
        if seen <= place:
            return moment + self._between(seen + 1, place + 1)[0]
        return moment - self._between(place + 1, seen + 1)[1]


def _are_boards(thing):
    if not isinstance(thing, (list, tuple)) or len(thing) == 0:
        return False
    return all([is_board(board) for board in thing])


def _meets(relay, first, second, gap, number, other):
    """Whether a number can be seen at the first place, and by the gap later another one at the second place."""
    waits = relay.waits(first, second, number, other)
    left = None if waits is None else overlap(gap, waits)
    if left is None:
        return False
    led = behind(relay.line(first).window(number), left)
    return overlap(led, relay.line(second).window(other)) is not None


def relay_band(relay, first, second, gap, number):
    """The least and the greatest number that can be seen at the second place behind one at the first place."""
    met = [other for other in range(len(relay.book)) if _meets(relay, first, second, gap, number, other)]
    return met[0], met[-1]


def relay_overs(relay, first, second, gap):
    """The ascending list of the tuples (number, later) that can be seen so, the later one being of a greater price."""
    prices = relay.book.prices()
    many = range(len(prices))
    return [(number, later) for number in many for later in many
            if prices[later] > prices[number] and _meets(relay, first, second, gap, number, later)]
