"""Telling rules: how much later than the one board the other one is told of a change, and which are safe."""

from labeltill.kinds import is_integer
from labeltill.lines import Line


def is_rule(thing):
    """Whether any value is a telling rule: a tuple (up, down) of integers from 0 on."""
    if not isinstance(thing, tuple) or len(thing) != 2:
        return False
    return all([is_integer(later) and later >= 0 for later in thing])


def sent_by(rule, book):
    """The tuple of the two lists of the moments at which the changes are sent to the label, and to the till."""
    up, down = rule
    label = []
    till = []
    prices = book.prices()
    for moment, elder, newer in zip(book.moments(), prices, prices[1:]):
        # What is sent for a change is not ahead of what is sent for the one before.
        label.append(max(label[-1:] + [moment + down if newer < elder else moment]))
        till.append(max(till[-1:] + [moment + up if newer > elder else moment]))
    return label, till


def lines_told(rule, book, boards):
    """The tuple of the two Lines of the label and of the till that are told by a rule."""
    label, till = sent_by(rule, book)
    return Line(book, boards[0], label), Line(book, boards[1], till)


def keeps_apart(book, apart):
    """Whether each change but the first one comes at least so many moments behind the one ahead."""
    moments = book.moments()
    return all([later - moment >= apart for moment, later in zip(moments, moments[1:])])


def _needed(boards, gap):
    """What up must be greater than for the sake of a single rise, and down for that of a single fall.

    Where a rise and a fall follow one another, what the one is told later by must not eat up both this and apart.
    """
    label, till = boards
    return label[1] + gap[1] - till[0], till[1] - label[0] - gap[0]


def is_safe_rule(rule, boards, gap, apart):
    """Whether nobody can be charged more than the label showed, for every book that keeps apart."""
    up, down = rule
    rising, falling = _needed(boards, gap)
    return up > rising and down > falling and apart + up - down > rising and apart + down - up > falling


def least_rule(boards, gap, apart):
    """The safe rule of which both parts are the least, or None."""
    return rule_above((0, 0), boards, gap, apart)


def rule_above(rule, boards, gap, apart):
    """The least of the safe rules of which no part is less than in a rule, or None."""
    rising, falling = _needed(boards, gap)
    up = max(rule[0], rising + 1)
    down = max(rule[1], falling + 1)
    # Each part is held up by the other one, too; if a rule is safe at all, once around is enough.
    found = max(up, down + rising + 1 - apart), max(down, up + falling + 1 - apart)
    return found if is_safe_rule(found, boards, gap, apart) else None


def least_apart(boards, gap):
    """The least apart for which some rule is safe."""
    rising, falling = _needed(boards, gap)
    # up - down lies above rising - apart and below apart - falling: there must be an integer between.
    return (rising + falling + 3) // 2


def apart_for(rule, boards, gap):
    """The least apart for which a rule is safe, or None if it is for none."""
    up, down = rule
    rising, falling = _needed(boards, gap)
    if up <= rising or down <= falling:
        return None
    return max(1, rising - up + down + 1, falling - down + up + 1)


def how_many_rules(boards, gap, apart, most):
    """The number of safe rules of which both parts are at most an integer."""
    rising, falling = _needed(boards, gap)
    up = max(0, rising + 1)
    down = max(0, falling + 1)
    # A rule is a pair: by how much its up is above the least one, and its down below most; the sum of both tells
    # up - down, which lies above rising - apart and below apart - falling.
    ups = max(0, most - up + 1)
    downs = max(0, most - down + 1)
    above = most - up
    low, high = rising - apart + 1 + above, apart - falling - 1 + above
    return max(0, _pairs(ups, downs, high) - _pairs(ups, downs, low - 1))


def _pairs(many, others, most):
    """The number of pairs of integers from 0 on, the one below many, the other below others, of at most a sum."""
    outside = _sums(most - many) + _sums(most - others)
    return _sums(most) - outside + _sums(most - many - others)


def _sums(most):
    """The number of pairs of integers from 0 on whose sum is at most an integer."""
    return (most + 1) * (most + 2) // 2 if most >= 0 else 0
