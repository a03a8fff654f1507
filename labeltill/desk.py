"""Desks: shops that are led by lines of text."""

from labeltill.errors import NoCommand
from labeltill.notation import show_board, show_book, show_deed, show_moments, show_window
from labeltill.readers import deed_in, integer_in
from labeltill.shop import PLACES, Shop


class Desk:
    """A Shop, and the answers to lines of text."""

    def __init__(self, first, label, till):
        self._shop = Shop(first, label, till)

    def execute(self, line):
        """The answer to a line: a deed, or a question to the Shop."""
        deed = deed_in(line)
        if deed is not None:
            self._shop.do(deed)
            return "done"
        words = line.split(" ")
        if len(words) == 1:
            return self._plain(line)
        if len(words) != 3:
            raise NoCommand()
        if words[0] in ("charged", "overs"):
            return self._of_both(words[0], integer_in(words[1]), integer_in(words[2]))
        return self._at_place(words[0], words[1], words[2])

    def _plain(self, word):
        """The answer to a line of one word."""
        if word == "back":
            return show_deed(self._shop.back())
        if word == "again":
            return show_deed(self._shop.again())
        if word == "book":
            return show_book(self._shop.book)
        if word == "log":
            deeds = self._shop.log()
            return "; ".join([show_deed(deed) for deed in deeds]) if len(deeds) > 0 else "none"
        raise NoCommand()

    def _of_both(self, word, moment, later):
        """The answer to a line that asks for a look at the label and one at the till."""
        if moment is None or later is None or later < moment:
            raise NoCommand()
        if word == "charged":
            return show_board(self._shop.charged(moment, later))
        return show_board(self._shop.overs(moment, later))

    def _at_place(self, word, place, text):
        """The answer to a line that asks for one place."""
        asked = integer_in(text)
        if place not in PLACES or asked is None:
            raise NoCommand()
        if word == "window" and asked >= 0:
            return show_window(self._shop.line(place).window(asked))
        if word == "numbers":
            return show_moments(self._shop.numbers(place, asked))
        if word == "prices":
            return show_moments(self._shop.prices(place, asked))
        if word == "surely":
            price = self._shop.surely(place, asked)
            return "open" if price is None else str(price)
        raise NoCommand()
