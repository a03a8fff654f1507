"""Bands: which numbers of a label and of a till can be seen one behind the other."""

from labeltill.spans import ahead_of, overlap


def meets(label, number, till, other, gap):
    """Whether a number can be seen at the label, and by the gap later another one at the till."""
    return moments_of(label, number, till, other, gap) is not None


def moments_of(label, number, till, other, gap):
    """The span of the moments at which the label can be looked at if these numbers are seen, or None."""
    return overlap(label.window(number), ahead_of(till.window(other), gap))


def band(label, till, gap):
    """For each number of the label the least and the greatest number at the till behind it."""
    met = cells(label, till, gap)
    rows = [[other for one, other in met if one == number] for number in range(len(label.book))]
    return [(row[0], row[-1]) for row in rows]


def band_back(label, till, gap):
    """For each number of the till the least and the greatest number at the label ahead of it."""
    met = cells(label, till, gap)
    rows = [[one for one, other in met if other == number] for number in range(len(till.book))]
    return [(row[0], row[-1]) for row in rows]


def cells(label, till, gap):
    """The ascending list of the tuples of a number at the label and one at the till that can be seen so."""
    many = range(len(label.book))
    return [(number, other) for number in many for other in many if meets(label, number, till, other, gap)]


def stretches_at(label, till, moment, wait):
    """The stretch of the label at a moment, and that of the till wait moments later."""
    return label.stretch(moment), till.stretch(moment + wait)
