"""Shops: a book, a label and a till that are led by deeds, which can be taken back and done again."""

from labeltill.books import Book
from labeltill.errors import Clash, Nothing, NoPlace, NotLater, Passed, Refused, Wrong
from labeltill.kinds import is_board, is_change, is_price
from labeltill.lines import Line
from labeltill.sightings import is_seen, numbers_at, prices_seen_at, surely_at

CHANGE = "change"
PLACES = ("label", "till")


def is_deed(thing):
    """Whether any value is a deed, by its form alone."""
    if not isinstance(thing, tuple) or len(thing) != 3:
        return False
    # The moment and the price of a sighting have the form of a change.
    return isinstance(thing[0], str) and (thing[0] == CHANGE or thing[0] in PLACES) and is_change(thing[1:])


class Shop:
    """A Book that is told to a label and to a till, and what was seen there; led by deeds."""

    def __init__(self, first, label, till):
        if not is_price(first):
            raise Wrong(0)
        if not is_board(label):
            raise Wrong(1)
        if not is_board(till):
            raise Wrong(2)
        self._first = first
        self._boards = {"label": label, "till": till}
        self._keep([], [])

    def _keep(self, done, undone):
        """Keeps the deeds that stand and those that can be done again, each in the order in which that comes about."""
        self._done = done
        self._undone = undone
        self._book = self._book_of(done)

    def _book_of(self, deeds):
        """The Book of the changes among some deeds; raises NotLater for the first one that does not come later."""
        return Book(self._first, _told(deeds, CHANGE))

    def _check(self, done, deed):
        """Raises the error of a deed that cannot be done behind those that are done."""
        word, moment, _ = deed
        ahead = _told(done, word)
        if word != CHANGE and len(ahead) > 0 and moment < ahead[-1][0]:
            raise Passed(moment)
        deeds = done + [deed]
        book = self._book_of(deeds)
        for place in PLACES:
            if not is_seen(Line(book, self._boards[place]), _told(deeds, place)):
                raise Clash(deed)

    @property
    def book(self):
        """The Book as it stands."""
        return self._book

    def do(self, deed):
        """Does a deed: a change, or a sighting at a place."""
        if not is_deed(deed):
            raise Wrong(0)
        self._check(self._done, deed)
        self._keep(self._done + [deed], [])

    def do_all(self, deeds):
        """Does all deeds one after another, or none of them."""
        done = list(self._done)
        for deed in deeds:
            if not is_deed(deed):
                raise Refused(deed)
            try:
                self._check(done, deed)
            except (NotLater, Passed, Clash):
                raise Refused(deed) from None
            done.append(deed)
        # Where nothing was done, what was taken back can still be done again.
        if len(deeds) > 0:
            self._keep(done, [])

    def back(self):
        """Takes the last deed that stands back, and returns it."""
        if len(self._done) == 0:
            raise Nothing()
        deed = self._done[-1]
        self._keep(self._done[:-1], self._undone + [deed])
        return deed

    def again(self):
        """Does the deed again that was taken back last, and returns it."""
        if len(self._undone) == 0:
            raise Nothing()
        deed = self._undone[-1]
        self._keep(self._done + [deed], self._undone[:-1])
        return deed

    def log(self):
        """The list of the deeds that stand, in order."""
        return list(self._done)

    def copied(self):
        """A Shop that is alike in all, and goes on by itself."""
        shop = Shop(self._first, self._boards["label"], self._boards["till"])
        shop._keep(list(self._done), list(self._undone))
        return shop

    def line(self, place):
        """The Line of a place."""
        _check_place(place)
        return Line(self._book, self._boards[place])

    def sightings(self, place):
        """The list of the sightings (moment, price) at a place."""
        _check_place(place)
        return _told(self._done, place)

    def numbers(self, place, moment):
        """The ascending list of the numbers that a further look can be of, beside all sightings."""
        return numbers_at(self.line(place), self.sightings(place), moment)

    def prices(self, place, moment):
        """The ascending list of the different prices that a further look can be of, beside all sightings."""
        return prices_seen_at(self.line(place), self.sightings(place), moment)

    def surely(self, place, moment):
        """The price of a further look, if there is just one, otherwise None."""
        return surely_at(self.line(place), self.sightings(place), moment)

    def charged(self, moment, later):
        """The least and the greatest price that can be charged by the rule "lower" for looks at label and till."""
        shown = self.prices("label", moment)
        asked = self.prices("till", later)
        return min(shown[0], asked[0]), min(shown[-1], asked[-1])

    def overs(self, moment, later):
        """The least and the greatest price of the till less that of the label, for looks at both."""
        shown = self.prices("label", moment)
        asked = self.prices("till", later)
        return asked[0] - shown[-1], asked[-1] - shown[0]


def _told(deeds, word):
    """The list of the tuples (moment, price) of the deeds of one kind."""
    return [(moment, price) for kind, moment, price in deeds if kind == word]


def _check_place(thing):
    """Raises NoPlace for any value that is no place."""
    if not isinstance(thing, str) or thing not in PLACES:
        raise NoPlace(thing)
