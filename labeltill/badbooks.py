"""Bad books: books for which a telling rule lets somebody be charged more than the label showed."""

from labeltill.books import Book
from labeltill.charges import greatest_over, is_visit, over_visit
from labeltill.rules import keeps_apart, lines_told

MOST_CHANGES = 12


def over_by(rule, book, boards, gap):
    """The greatest charge over what the label shows, of a book that is told by a rule."""
    label, till = lines_told(rule, book, boards)
    return greatest_over(label, till, gap, "till")


def bad_book(rule, boards, gap, apart):
    """A tuple of a Book of at most two changes and a visit in which more is charged than shown, or None."""
    # What a rule that is not safe gets wrong is a rise, a rise behind a fall, a fall, or a fall behind a rise; one
    # of these two books shows each of them.
    for changes in ([(0, 0), (apart, 2)], [(0, 2), (apart, 0)]):
        book = Book(1, changes)
        if over_by(rule, book, boards, gap) > 0:
            label, till = lines_told(rule, book, boards)
            return book, over_visit(label, till, gap, "till")
    return None


def is_bad_book(rule, boards, gap, apart, thing):
    """Whether any value is a tuple of a Book that keeps apart and a visit in which more is charged than shown."""
    if not isinstance(thing, tuple) or len(thing) != 2:
        return False
    book, visit = thing
    if not isinstance(book, Book) or len(book) - 1 > MOST_CHANGES or not keeps_apart(book, apart):
        return False
    label, till = lines_told(rule, book, boards)
    return is_visit(label, till, gap, visit) and book[visit[1]] > book[visit[0]]
