"""Visits: rows of looks at lines that follow one another by gaps."""

from labeltill.books import check_number
from labeltill.errors import Wrong
from labeltill.kinds import is_board, is_index, is_integer
from labeltill.lines import Line
from labeltill.spans import EVER, ahead_of, behind, overlap, some_moment


class Visit:
    """Looks at one to five lines, the gaps between them, and the moment of the first look if it is told."""

    def __init__(self, lines, looks, gaps, begun=None):
        if not _are_lines(lines):
            raise Wrong(0)
        if not _are_looks(looks, len(lines)):
            raise Wrong(1)
        if not _are_gaps(gaps, len(looks) - 1):
            raise Wrong(2)
        if begun is not None and not is_integer(begun):
            raise Wrong(3)
        self._lines = tuple(lines)
        self._looks = tuple(looks)
        self._gaps = tuple(gaps)
        self._begun = begun

    def __eq__(self, other):
        return (isinstance(other, Visit) and self._lines == other._lines and self._looks == other._looks
                and self._gaps == other._gaps and self._begun == other._begun)

    def lines(self):
        """The list of the lines."""
        return list(self._lines)

    def looks(self):
        """The list of the indexes of the lines that are looked at."""
        return list(self._looks)

    def gaps(self):
        """The list of the gaps from each look to the next one."""
        return list(self._gaps)

    def start(self):
        """The moment of the first look, None if it is not told."""
        return self._begun

    def can_be(self, numbers):
        """Whether the looks can be of these numbers."""
        self._check(numbers)
        return self._fits(numbers)

    def shown_by(self, numbers):
        """A tuple (moments, courses) by which the looks are of these numbers, or None."""
        self._check(numbers)
        if not self._fits(numbers):
            return None
        moments = self._moments_for(numbers)
        return moments, [line.course_with(self._looks_at(place, moments, numbers))
                         for place, line in enumerate(self._lines)]

    def is_shown(self, numbers, thing):
        """Whether any value is a tuple (moments, courses) by which the looks are of these numbers."""
        self._check(numbers)
        if not isinstance(thing, tuple) or len(thing) != 2:
            return False
        moments, courses = thing
        if not self._are_moments(moments) or not self._are_courses(courses) or self._falls(numbers):
            return False
        for look, moment, number in zip(self._looks, moments, numbers):
            low, high = self._lines[look].shown(courses[look], moment)
            if number < low or high < number:
                return False
        return True

    def clash(self, numbers):
        """The least tuple of one look, or else of two looks, that cannot be of these numbers, or None."""
        self._check(numbers)
        many = len(self._looks)
        for index in range(many):
            if overlap(self._led_to(index), self._window(index, numbers[index])) is None:
                return (index,)
        for index in range(many):
            for other in range(index + 1, many):
                if not self._can_both(index, other, numbers):
                    return index, other
        return None

    def numbers_at(self, told, index):
        """The least and the greatest number that a look can be of beside those that are told, or None."""
        self._check([0 if number is None else number for number in told])
        book = self._lines[self._looks[index]].book
        numbers = [told[index]]
        if told[index] is None:
            numbers = list(range(len(book)))
        found = [number for number in numbers if self._fits(told[:index] + [number] + told[index + 1:])]
        return None if len(found) == 0 else (found[0], found[-1])

    def _check(self, numbers):
        """Raises NoNumber for the first value that is no number of the book of its line."""
        for look, number in zip(self._looks, numbers):
            check_number(self._lines[look].book, number)

    def _window(self, index, number):
        """The moments at which a look can be of a number; where none is told, the board shows one at each."""
        return EVER if number is None else self._lines[self._looks[index]].window(number)

    def _gap_between(self, index, other):
        """The gap from a look to itself or to a later one."""
        gaps = self._gaps[index:other]
        return sum([least for least, _ in gaps]), sum([most for _, most in gaps])

    def _led_to(self, index):
        """The moments of a look to which begun and the gaps lead."""
        return behind((self._begun, self._begun), self._gap_between(0, index))

    def _can_both(self, index, other, numbers):
        """Whether two looks can be of their numbers together, by the gaps between them alone."""
        if self._looks[index] == self._looks[other] and numbers[other] < numbers[index]:
            return False
        led = behind(self._window(index, numbers[index]), self._gap_between(index, other))
        return overlap(led, self._window(other, numbers[other])) is not None

    def _fits(self, told):
        """Whether the looks can be of these numbers, None being any number."""
        return not self._falls(told) and self._spans(told) is not None

    def _falls(self, told):
        """Whether a number is less than one of an earlier look at the same board."""
        seen = {}
        for look, number in zip(self._looks, told):
            if number is not None:
                if number < seen.get(look, 0):
                    return True
                seen[look] = number
        return False

    def _spans(self, told):
        """The spans of the moments of each look that it and those ahead of it leave, None if none is left."""
        spans = []
        led = self._led_to(0)
        for index, number in enumerate(told):
            if index > 0:
                led = behind(led, self._gaps[index - 1])
            led = overlap(led, self._window(index, number))
            if led is None:
                return None
            spans.append(led)
        return spans

    def _moments_for(self, numbers):
        """The moments of looks that can be of these numbers, chosen from the last look back to the first."""
        spans = self._spans(numbers)
        moments = [some_moment(spans[-1], self._anchor())]
        for index in reversed(range(len(self._gaps))):
            held = ahead_of((moments[0], moments[0]), self._gaps[index])
            moments = [overlap(held, spans[index])[0]] + moments
        return moments

    def _anchor(self):
        """The moment of a look that no window bounds; it moves with the lines if anything in them does."""
        return min([line.sent()[0] for line in self._lines if len(line.book) > 1], default=0)

    def _looks_at(self, place, moments, numbers):
        """The looks (moment, number) at the line with an index."""
        return [(moment, number) for look, moment, number in zip(self._looks, moments, numbers) if look == place]

    def _are_moments(self, thing):
        """Whether any value is a list of moments that follow one another by begun and the gaps."""
        if not isinstance(thing, list) or len(thing) != len(self._looks):
            return False
        if not all([is_integer(moment) for moment in thing]):
            return False
        if self._begun is not None and thing[0] != self._begun:
            return False
        waits = [later - moment for moment, later in zip(thing, thing[1:])]
        return all([least <= wait <= most for wait, (least, most) in zip(waits, self._gaps)])

    def _are_courses(self, thing):
        """Whether any value is a list of one course for each of the lines."""
        if not isinstance(thing, list) or len(thing) != len(self._lines):
            return False
        return all([line.is_course(course) for line, course in zip(self._lines, thing)])


def _are_lines(thing):
    if not isinstance(thing, list) or not 1 <= len(thing) <= 5:
        return False
    return all([isinstance(line, Line) for line in thing])


def _are_looks(thing, many):
    if not isinstance(thing, list) or not 1 <= len(thing) <= 5:
        return False
    return all([is_index(look, many) for look in thing])


def _are_gaps(thing, many):
    if not isinstance(thing, list) or len(thing) != many:
        return False
    return all([is_board(gap) for gap in thing])
