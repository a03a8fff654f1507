"""Least plans: for a good order the plan that follows it of which each moment is the least."""

from labeltill.orders import check_order, least_behind, moments_told, partings


def least_plan(book, label, till, gap, order):
    """The plan that follows a good order of which each moment is the least."""
    moments, _ = _told(book, label, till, gap, order)
    return _sent(order, moments, "L"), _sent(order, moments, "T")


def forced_by(book, label, till, gap, order):
    """For each letter None if it is told at once, otherwise the least index of a letter that forces it."""
    _, forcing = _told(book, label, till, gap, order)
    return forcing


def _sent(order, moments, kind):
    return [moment for letter, moment in zip(order, moments) if letter == kind]


def _told(book, label, till, gap, order):
    """For each letter its least moment, and for each the least index of a letter that forces it, or None."""
    check_order(book, order)
    own = moments_told((book.moments(), book.moments()), order)
    met = partings(book, order)
    moments = []
    forcing = []
    for index, least in enumerate(own):
        elders = [elder for elder, later in met if later == index]
        forces = [(moments[elder], elder) for elder in range(index) if order[elder] == order[index]]
        forces += [(least_behind(label, till, gap, order[elder], moments[elder]), elder) for elder in elders]
        moment = max([least] + [bound for bound, _ in forces])
        moments.append(moment)
        forcing.append(None if moment == least else min([elder for bound, elder in forces if bound == moment]))
    return moments, forcing
