"""Best orders: those whose least plans end first, and those whose least plans wait least."""

from labeltill.leastplans import least_plan
from labeltill.orders import count_orders, order_at


def ending(plan):
    """The greatest moment of a plan, None if there is none."""
    return max(plan[0] + plan[1], default=None)


def waiting(book, plan):
    """The sum of the differences between the moments of a plan and the own moments of the changes."""
    return sum(plan[0]) + sum(plan[1]) - 2 * sum(book.moments())


def first_to_end(book, label, till, gap):
    """The least good order whose least plan has the least ending."""
    orders = _good_orders(book)
    return _least(orders, [ending(least_plan(book, label, till, gap, order)) for order in orders])


def least_waiting(book, label, till, gap):
    """The least good order whose least plan has the least waiting."""
    orders = _good_orders(book)
    return _least(orders, [waiting(book, least_plan(book, label, till, gap, order)) for order in orders])


def _good_orders(book):
    """The ascending list of the good orders."""
    return [order_at(book, index) for index in range(count_orders(book))]


def _least(orders, costs):
    """The first one of some orders that has the least cost; a single one may have the cost None."""
    return orders[costs.index(min(costs))]
