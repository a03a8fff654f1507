"""Plans: when each change is sent to the label and to the till, and which cells can be met then."""

from labeltill.lines import Line, are_moments_from
from labeltill.spans import ahead_of, least_wait, overlap, window_of


def is_plan(book, thing):
    """Whether any value is a plan: a tuple of two lists of the moments at which the changes are sent."""
    if not isinstance(thing, tuple) or len(thing) != 2:
        return False
    own = book.moments()
    return all([are_moments_from(sent, own) for sent in thing])


def lines_by(book, label, till, plan):
    """The tuple of the two Lines by which a plan tells the label and the till."""
    return Line(book, label, plan[0]), Line(book, till, plan[1])


def bad_cells(book):
    """The ascending list of the cells in which the till asks more than the label shows."""
    prices = book.prices()
    return [(one, other) for one, shown in enumerate(prices) for other, asked in enumerate(prices) if asked > shown]


def can_meet(label, till, gap, plan, cell):
    """Whether somebody can see the one number of a cell at the label, and then the other at the till."""
    return _looking(label, till, gap, plan, cell) is not None


def _looking(label, till, gap, plan, cell):
    """The span of the moments of looking at which a cell can be met, or None."""
    one, other = cell
    return overlap(window_of(plan[0], label, one), ahead_of(window_of(plan[1], till, other), gap))


def is_safe(book, label, till, gap, plan):
    """Whether no bad cell can be met."""
    return harm(book, label, till, gap, plan) is None


def harm(book, label, till, gap, plan):
    """The least bad cell that can be met, with the least moments of looking and of paying, or None."""
    for cell in bad_cells(book):
        looking = _looking(label, till, gap, plan, cell)
        if looking is not None:
            # One number of a bad cell is not 0 and begins at some moment, so that looking has a begin.
            looked = looking[0]
            wait = least_wait(looked, window_of(plan[1], till, cell[1]), gap)
            return cell, (looked, looked + wait)
    return None
