"""Lines: books that are told to a board, which hears late."""

from labeltill.books import Book, check_number
from labeltill.errors import Early, Wrong
from labeltill.kinds import is_board, is_integer
from labeltill.spans import is_within, taken_over, window_of


class Line:
    """A book, a board, and the moments at which the changes are sent to it."""

    def __init__(self, book, board, sent=None):
        if not isinstance(book, Book):
            raise Wrong(0)
        if not is_board(board):
            raise Wrong(1)
        own = book.moments()
        told = own if sent is None else sent
        if not _are_moments(told, len(own)):
            raise Wrong(2)
        index = _first_early(told, own)
        if index is not None:
            raise Early(index)
        self._book = book
        self._board = board
        self._sent = tuple(told)

    def __eq__(self, other):
        return (isinstance(other, Line) and self._book == other._book and self._board == other._board
                and self._sent == other._sent)

    @property
    def book(self):
        """The Book of the line."""
        return self._book

    @property
    def board(self):
        """The board of the line."""
        return self._board

    def sent(self):
        """The list of the moments at which the changes are sent."""
        return list(self._sent)

    def earliest(self):
        """The course of which each moment is the least."""
        return [moment + self._board[0] for moment in self._sent]

    def latest(self):
        """The course of which each moment is the greatest."""
        return [moment + self._board[1] for moment in self._sent]

    def window(self, number):
        """The span of the moments at which the line can show a number."""
        check_number(self._book, number)
        return window_of(self._sent, self._board, number)

    def can_show(self, number, moment):
        """Whether the line can show a number at a moment."""
        return is_within(self.window(number), moment)

    def stretch(self, moment):
        """The least and the greatest number that the line can show at a moment."""
        # The course that is always latest shows the least number, the earliest one the greatest.
        return taken_over(self.latest(), moment)[0], taken_over(self.earliest(), moment)[1]

    def prices_at(self, moment):
        """The ascending list of the different prices that the line can show at a moment."""
        low, high = self.stretch(moment)
        return sorted(set(self._book.prices()[low:high + 1]))

    def is_course(self, thing):
        """Whether any value is a course of the line."""
        if not are_moments_from(thing, self.earliest()):
            return False
        return all([moment <= most for moment, most in zip(thing, self.latest())])

    def shown(self, course, moment):
        """The least and the greatest number that the board shows at a moment in a course."""
        return taken_over(course, moment)

    def course_with(self, looks):
        """A course in which the board shows each number of the looks at its moment, or None."""
        if self.tight(looks) is not None:
            return None
        return [self._taking_over(index, looks) for index in range(len(self._sent))]

    def _taking_over(self, index, looks):
        """The least moment at which the change with an index can be taken over behind the looks ahead."""
        held = [moment for moment, number in looks if number <= index]
        return max([self._sent[index] + self._board[0]] + held)

    def tight(self, looks):
        """The least tuple of one look, or else of two looks, that cannot be, None if there is a course."""
        for _, number in looks:
            check_number(self._book, number)
        for index, (moment, number) in enumerate(looks):
            if not self.can_show(number, moment):
                return (index,)
        return _first_fall([number for _, number in looks])


def are_moments_from(thing, least):
    """Whether any value is a list of moments that never fall, none of them less than its least one."""
    return isinstance(thing, list) and _are_moments(thing, len(least)) and _first_early(thing, least) is None


def _are_moments(thing, many):
    """Whether any value is a list or a tuple of so many integers."""
    if not isinstance(thing, (list, tuple)) or len(thing) != many:
        return False
    return all([is_integer(moment) for moment in thing])


def _first_early(moments, least):
    """The index of the first moment that is less than its least one, or than the one ahead, or None."""
    for index, moment in enumerate(moments):
        if moment < least[index] or (index > 0 and moment < moments[index - 1]):
            return index
    return None


def _first_fall(numbers):
    """The least tuple (index, other) of two numbers that fall, or None."""
    for index, number in enumerate(numbers):
        for other in range(index + 1, len(numbers)):
            if numbers[other] < number:
                return index, other
    return None
