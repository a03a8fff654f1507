"""Rounds: changes that come again in each period, for ever, ahead and behind."""

from labeltill.books import Book, are_changes, first_not_later
from labeltill.errors import NotLater, Outside, Wrong
from labeltill.kinds import is_index, is_integer


class Rounds:
    """A period, and the changes of the round that begins at the moment 0; numbers are integers of any sign."""

    def __init__(self, period, changes):
        if not is_integer(period) or period < 1:
            raise Wrong(0)
        if not are_changes(changes) or len(changes) == 0:
            raise Wrong(1)
        index = first_not_later(changes)
        if index is not None:
            raise NotLater(index)
        for place, (moment, _) in enumerate(changes):
            if not is_index(moment, period):
                raise Outside(place)
        self._period = period
        self._changes = tuple(changes)

    def __len__(self):
        return len(self._changes)

    def __eq__(self, other):
        return isinstance(other, Rounds) and self._period == other._period and self._changes == other._changes

    @property
    def period(self):
        """The period."""
        return self._period

    def changes(self):
        """The list of the changes of the round that begins at the moment 0."""
        return list(self._changes)

    def price_of(self, number):
        """The price of a number."""
        return self._changes[number % len(self._changes)][1]

    def told_at(self, number):
        """The moment of the change that tells a number."""
        turn, index = divmod(number, len(self._changes))
        return turn * self._period + self._changes[index][0]

    def number_at(self, moment):
        """The greatest number whose change is not behind a moment."""
        turn, within = divmod(moment, self._period)
        told = [begin for begin, _ in self._changes if begin <= within]
        return turn * len(self._changes) + len(told) - 1

    def window(self, board, number):
        """The span of the moments at which a board can show a number."""
        return self.told_at(number) + board[0], self.told_at(number + 1) + board[1]

    def stretch(self, board, moment):
        """The least and the greatest number that a board can show at a moment."""
        # The latest course shows the number that it took over last ahead of the moment, the earliest one the newest.
        return self.number_at(moment - board[1] - 1), self.number_at(moment - board[0])

    def prices_at(self, board, moment):
        """The ascending list of the different prices that a board can show at a moment."""
        low, high = self.stretch(board, moment)
        return _prices_between(self, low, high)

    def unrolled(self, first, many):
        """The Book of so many changes from the one that tells the number first on."""
        told = [(self.told_at(number), self.price_of(number)) for number in range(first, first + many)]
        return Book(self.price_of(first - 1), told)


def _prices_between(rounds, low, high):
    """The ascending list of the different prices of the numbers from low to high."""
    # A whole round has all prices; a stretch may be longer than any range that can be gone through.
    last = min(high, low + len(rounds) - 1)
    return sorted({rounds.price_of(number) for number in range(low, last + 1)})


def round_band(rounds, label, till, gap, number):
    """The least and the greatest number at the till that can be seen behind a number at the label."""
    begin, end = rounds.window(label, number)
    return rounds.stretch(till, begin + gap[0])[0], rounds.stretch(till, end + gap[1])[1]


def _overs_for(rounds, label, till, gap, number):
    """The ascending list of what prices at the till are over that of a number at the label."""
    low, high = round_band(rounds, label, till, gap, number)
    return [price - rounds.price_of(number) for price in _prices_between(rounds, low, high)]


def greatest_round_over(rounds, label, till, gap):
    """The greatest price at the till, less that at the label, of all visits."""
    return max([_overs_for(rounds, label, till, gap, number)[-1] for number in range(len(rounds))])


def least_round_over(rounds, label, till, gap):
    """The least price at the till, less that at the label, of all visits."""
    return min([_overs_for(rounds, label, till, gap, number)[0] for number in range(len(rounds))])


def next_round_over(rounds, label, till, gap, number):
    """The least number from a number on behind which a greater price can be seen at the till, or None."""
    # In each further round the same can be seen again.
    for later in range(number, number + len(rounds)):
        if _overs_for(rounds, label, till, gap, later)[-1] > 0:
            return later
    return None
