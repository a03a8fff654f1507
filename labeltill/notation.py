"""Notation: the texts of books, boards, moments, deeds, sightings and windows."""


def show_sighting(sighting):
    """The text of a tuple (moment, price)."""
    moment, price = sighting
    return f"{price} at {moment}"


def show_book(book):
    """The text of a Book: its first price, and its changes."""
    return "; ".join([str(book[0])] + [show_sighting(change) for change in book.changes()])


def show_board(board):
    """The text of a tuple of two integers."""
    least, most = board
    return f"{least} to {most}"


def show_moments(moments):
    """The text of a list of integers."""
    return " ".join([str(moment) for moment in moments]) if len(moments) > 0 else "none"


def show_deed(deed):
    """The text of a deed."""
    word, moment, price = deed
    return f"{word} {show_sighting((moment, price))}"


def show_window(window):
    """The text of a window, of which an end may be None."""
    begin, end = ["ever" if bound is None else str(bound) for bound in window]
    return f"{begin} to {end}"
