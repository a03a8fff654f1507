"""Losses: how much less is charged than the book asks at the moment of paying."""

from labeltill.bands import cells
from labeltill.charges import cells_at, charged, is_visit
from labeltill.errors import NoLoss
from labeltill.kinds import is_index, is_integer
from labeltill.lines import Line
from labeltill.spans import ahead_of, least_wait, overlap, some_moment, united


def book_line(book):
    """The Line of a book that is told at once."""
    return Line(book, (0, 0))


def is_loss_visit(label, till, gap, thing):
    """Whether any value is a loss visit (number, other, own, moment, wait) that can be."""
    if not isinstance(thing, tuple) or len(thing) != 5:
        return False
    number, other, own, moment, wait = thing
    if not is_visit(label, till, gap, (number, other, moment, wait)) or not is_index(own, len(label.book)):
        return False
    return book_line(label.book).can_show(own, moment + wait)


def _loss(prices, rule, triple):
    """The loss where numbers of the label, of the till and of the book meet."""
    number, other, own = triple
    return prices[own] - charged(rule, prices[number], prices[other])


def _meetings(label, till, gap):
    """The list of tuples of three numbers that can meet, and of the spans of looking and of paying then."""
    line = book_line(label.book)
    found = []
    for other, own in cells(till, line, (0, 0)):
        paying = overlap(till.window(other), line.window(own))
        for number in range(len(label.book)):
            looking = overlap(label.window(number), ahead_of(paying, gap))
            if looking is not None:
                found.append(((number, other, own), looking, paying))
    return found


def losses(label, till, gap, rule):
    """The ascending list of all losses that can be."""
    prices = label.book.prices()
    return sorted({_loss(prices, rule, triple) for triple, _, _ in _meetings(label, till, gap)})


def greatest_loss(label, till, gap, rule):
    """The greatest loss that can be."""
    return losses(label, till, gap, rule)[-1]


def least_loss(label, till, gap, rule):
    """The least loss that can be."""
    return losses(label, till, gap, rule)[0]


def loss_visit(label, till, gap, rule, loss):
    """A loss visit that can be with a loss."""
    if not is_integer(loss):
        raise NoLoss(loss)
    prices = label.book.prices()
    for triple, looking, paying in _meetings(label, till, gap):
        if _loss(prices, rule, triple) == loss:
            number, other, own = triple
            # Without a bound there are no changes, and each moment will do.
            moment = some_moment(looking, 0)
            return number, other, own, moment, least_wait(moment, paying, gap)
    raise NoLoss(loss)


def losses_at(label, till, moment, wait, rule):
    """The ascending list of the losses that can be at told moments."""
    prices = label.book.prices()
    low, high = label.book.at(moment + wait)
    met = cells_at(label, till, moment, wait)
    return sorted({_loss(prices, rule, (number, other, own))
                   for number, other in met for own in range(low, high + 1)})


def moments_with(label, till, wait, rule, loss):
    """The stretches of the moments of looking that can lead to a loss, or to a greater one, by a told wait."""
    prices = label.book.prices()
    met = _meetings(label, till, (wait, wait))
    return united([looking for triple, looking, _ in met if _loss(prices, rule, triple) >= loss])
