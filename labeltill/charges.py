"""Charges: what is charged to somebody who saw a price, and how much it is over."""

from labeltill.bands import cells, moments_of, stretches_at
from labeltill.errors import NoPrice
from labeltill.kinds import is_index, is_integer, is_price
from labeltill.spans import least_wait, some_moment

RULES = ("till", "shown", "lower")


def charged(rule, shown, asked):
    """What is charged if the label shows one price and the till asks another one."""
    if rule == "till":
        return asked
    if rule == "shown":
        return shown
    return min(shown, asked)


def is_visit(label, till, gap, thing):
    """Whether any value is a visit (number, other, moment, wait) that can be."""
    if not isinstance(thing, tuple) or len(thing) != 4:
        return False
    number, other, moment, wait = thing
    many = len(label.book)
    if not is_index(number, many) or not is_index(other, many):
        return False
    if not is_integer(moment) or not is_integer(wait) or not gap[0] <= wait <= gap[1]:
        return False
    return label.can_show(number, moment) and till.can_show(other, moment + wait)


def cells_at(label, till, moment, wait):
    """The list of the tuples of a number at the label and one at the till at told moments."""
    (low, high), (least, greatest) = stretches_at(label, till, moment, wait)
    return [(number, other) for number in range(low, high + 1) for other in range(least, greatest + 1)]


def _receipts(book, rule, met):
    """The list of the tuples of the price that is shown and the one that is charged in each cell."""
    prices = book.prices()
    return [(prices[number], charged(rule, prices[number], prices[other])) for number, other in met]


def charges(label, till, gap, rule):
    """The ascending list of the different prices that can be charged."""
    return sorted({paid for _, paid in _receipts(label.book, rule, cells(label, till, gap))})


def charges_at(label, till, moment, wait, rule):
    """The ascending list of the different prices that can be charged at told moments."""
    return sorted({paid for _, paid in _receipts(label.book, rule, cells_at(label, till, moment, wait))})


def surely_charged(label, till, moment, wait, rule):
    """The only price that can be charged at told moments, None if there are several."""
    found = charges_at(label, till, moment, wait, rule)
    return found[0] if len(found) == 1 else None


def charges_for(label, till, gap, rule, shown):
    """The ascending list of the prices that can be charged to somebody who saw a price."""
    if not is_price(shown) or shown not in label.book.prices():
        raise NoPrice(shown)
    return sorted({paid for seen, paid in _receipts(label.book, rule, cells(label, till, gap)) if seen == shown})


def overs(label, till, gap, rule):
    """The ascending list of all that can be charged over what the label shows."""
    return sorted({paid - seen for seen, paid in _receipts(label.book, rule, cells(label, till, gap))})


def greatest_over(label, till, gap, rule):
    """The greatest of all that can be charged over what the label shows."""
    return overs(label, till, gap, rule)[-1]


def over_visit(label, till, gap, rule):
    """A visit that can be in which the most is charged over what the label shows."""
    met = cells(label, till, gap)
    receipts = _receipts(label.book, rule, met)
    _, (number, other) = max([(paid - seen, cell) for cell, (seen, paid) in zip(met, receipts)])
    # Without a bound there are no changes, and each moment will do.
    moment = some_moment(moments_of(label, number, till, other, gap), 0)
    return number, other, moment, least_wait(moment, till.window(other), gap)


def rules_of(label, till, gap, shown, paid):
    """The list of the rules by which somebody can have seen the one price and paid the other."""
    met = cells(label, till, gap)
    return [rule for rule in RULES if (shown, paid) in _receipts(label.book, rule, met)]
