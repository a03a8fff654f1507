"""Books: a first price, and the changes that follow it."""

from labeltill.errors import NoChange, NoNumber, NoPrice, NotLater, Wrong
from labeltill.kinds import is_change, is_index, is_integer, is_price
from labeltill.spans import taken_over


class Book:
    """A first price and changes, each a tuple (moment, price), the moments strictly rising."""

    def __init__(self, first, changes=()):
        if not is_price(first):
            raise Wrong(0)
        if not are_changes(changes):
            raise Wrong(1)
        index = first_not_later(changes)
        if index is not None:
            raise NotLater(index)
        self._changes = tuple(changes)
        self._prices = (first,) + tuple([price for _, price in changes])

    def __len__(self):
        return len(self._prices)

    def __iter__(self):
        return iter(self._prices)

    def __getitem__(self, number):
        check_number(self, number)
        return self._prices[number]

    def __eq__(self, other):
        return isinstance(other, Book) and self._prices == other._prices and self._changes == other._changes

    def changes(self):
        """The list of the changes."""
        return list(self._changes)

    def moments(self):
        """The list of the moments of the changes."""
        return [moment for moment, _ in self._changes]

    def prices(self):
        """The list of the prices by their numbers."""
        return list(self._prices)

    def at(self, moment):
        """The least and the greatest number that the book has at a moment."""
        return taken_over(self.moments(), moment)

    def first_at(self, price):
        """The moment of the first change that tells a price, None if it is the first price."""
        if not is_price(price) or price not in self._prices:
            raise NoPrice(price)
        number = self._prices.index(price)
        return None if number == 0 else self._changes[number - 1][0]

    def moved(self, by):
        """The Book with all moments greater by an integer."""
        return Book(self._prices[0], [(moment + by, price) for moment, price in self._changes])

    def scaled(self, by):
        """The Book with all prices multiplied by an integer from 1 on."""
        return Book(self._prices[0] * by, [(moment, price * by) for moment, price in self._changes])

    def with_change(self, moment, price):
        """The Book with this change put in, in the place of one at the same moment."""
        if not is_integer(moment):
            raise Wrong(0)
        if not is_price(price):
            raise Wrong(1)
        elder = [change for change in self._changes if change[0] < moment]
        newer = [change for change in self._changes if change[0] > moment]
        return Book(self._prices[0], elder + [(moment, price)] + newer)

    def without(self, index):
        """The Book without the change with an index."""
        if not is_index(index, len(self._changes)):
            raise NoChange(index)
        return Book(self._prices[0], self._changes[:index] + self._changes[index + 1:])

    def joined(self, other):
        """The Book with the changes of another one behind its own."""
        return Book(self._prices[0], self._changes + tuple(other.changes()))


def check_number(book, number):
    """Raises NoNumber for any value that is no number of a book."""
    if not is_index(number, len(book)):
        raise NoNumber(number)


def are_changes(thing):
    """Whether any value is a list or a tuple of changes."""
    return isinstance(thing, (list, tuple)) and all([is_change(change) for change in thing])


def first_not_later(changes):
    """The index of the first change whose moment is not greater than that of the one ahead, or None."""
    for index in range(1, len(changes)):
        if changes[index][0] <= changes[index - 1][0]:
            return index
    return None
