"""Readers: the things that texts tell, as the notation writes them."""

from labeltill.books import Book
from labeltill.errors import NoText
from labeltill.kinds import is_board
from labeltill.shop import is_deed

MOST_DIGITS = 40


def integer_in(text):
    """The integer that is written so, None if there is none."""
    digits = text[1:] if text.startswith("-") else text
    if not digits.isdigit() or len(digits) > MOST_DIGITS:
        return None
    number = int(text)
    # With zeros ahead, or a sign ahead of a zero, it is not as an integer is shown.
    return number if str(number) == text else None


def _price_in(text):
    """The price that is written so, None if there is none."""
    number = integer_in(text)
    return None if number is None or number < 0 else number


def _sighting_in(text):
    """The tuple (moment, price) that is written so, None if there is none."""
    before, _, behind = text.partition(" at ")
    price = _price_in(before)
    moment = integer_in(behind)
    return None if price is None or moment is None else (moment, price)


def deed_in(text):
    """The deed that is written so, None if there is none."""
    word, _, told = text.partition(" ")
    sighting = _sighting_in(told)
    if sighting is None:
        return None
    deed = (word,) + sighting
    return deed if is_deed(deed) else None


def read_sighting(text):
    """The tuple (moment, price) of a text."""
    sighting = _sighting_in(text)
    if sighting is None:
        raise NoText(0)
    return sighting


def read_book(text):
    """The Book of a text."""
    items = text.split("; ")
    first = _price_in(items[0])
    if first is None:
        raise NoText(0)
    changes = []
    for index, item in enumerate(items[1:], start=1):
        change = _sighting_in(item)
        if change is None or (len(changes) > 0 and change[0] <= changes[-1][0]):
            raise NoText(index)
        changes.append(change)
    return Book(first, changes)


def read_board(text):
    """The board of a text."""
    before, _, behind = text.partition(" to ")
    board = integer_in(before), integer_in(behind)
    if not is_board(board):
        raise NoText(0)
    return board


def read_moments(text):
    """The list of integers of a text."""
    if text == "none":
        return []
    moments = [integer_in(item) for item in text.split(" ")]
    if None in moments:
        raise NoText(moments.index(None))
    return moments


def read_deed(text):
    """The deed of a text."""
    deed = deed_in(text)
    if deed is None:
        raise NoText(0)
    return deed
