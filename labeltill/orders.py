"""Orders of telling: strings of a letter L for each change at the label, and a letter T for each at the till."""

from labeltill.errors import NoIndex, NoOrder
from labeltill.kinds import is_index
from labeltill.plans import bad_cells, is_safe


def is_order(book, thing):
    """Whether any value is an order."""
    many = len(book) - 1
    if not isinstance(thing, str) or len(thing) != 2 * many:
        return False
    return thing.count("L") == many and thing.count("T") == many


def is_good(book, thing):
    """Whether any value is an order whose way passes no bad cell."""
    if not is_order(book, thing):
        return False
    bad = bad_cells(book)
    return all([cell not in bad for cell in cells_of(thing)])


def check_order(book, order):
    """Raises NoOrder for any value that is no good order."""
    if not is_good(book, order):
        raise NoOrder(order)


def cells_of(order):
    """The list of the cells of the way of an order, the first one and the last one too."""
    cells = [(0, 0)]
    for letter in order:
        one, other = cells[-1]
        cells.append((one + 1, other) if letter == "L" else (one, other + 1))
    return cells


def plain_order(book):
    """The good order that goes change by change: LT where the price rises, TL where it falls or stays."""
    prices = book.prices()
    return "".join(["LT" if newer > elder else "TL" for elder, newer in zip(prices, prices[1:])])


def _ways_on(book):
    """For each cell the number of the ways from it to the last cell that pass no bad one."""
    last = len(book) - 1
    bad = bad_cells(book)
    ways = {}
    for one in reversed(range(last + 1)):
        for other in reversed(range(last + 1)):
            onward = 1 if one == last and other == last else _onward(ways, one, other) + ways.get((one, other + 1), 0)
            ways[(one, other)] = 0 if (one, other) in bad else onward
    return ways


def _onward(ways, one, other):
    """The number of the ways that go on from a cell by the letter L."""
    return ways.get((one + 1, other), 0)


def count_orders(book):
    """The number of good orders."""
    return _ways_on(book)[(0, 0)]


def order_at(book, index):
    """The good order with an index in ascending order."""
    ways = _ways_on(book)
    if not is_index(index, ways[(0, 0)]):
        raise NoIndex(index)
    ahead = index
    order = ""
    one = other = 0
    for _ in range(2 * (len(book) - 1)):
        by_label = _onward(ways, one, other)
        if ahead < by_label:
            order += "L"
            one += 1
        else:
            ahead -= by_label
            order += "T"
            other += 1
    return order


def order_index(book, order):
    """The index of a good order in ascending order."""
    check_order(book, order)
    ways = _ways_on(book)
    # Where an order goes on by T, all those that go on by L from there are ahead of it.
    return sum([_onward(ways, one, other) for (one, other), letter in zip(cells_of(order), order) if letter == "T"])


def partings(book, order):
    """For each bad cell the indexes of the two letters, elder and later, by which a good order parts it."""
    labels = [index for index, letter in enumerate(order) if letter == "L"]
    tills = [index for index, letter in enumerate(order) if letter == "T"]
    found = []
    for one, other in bad_cells(book):
        if one < len(labels) and other > 0 and labels[one] < tills[other - 1]:
            found.append((labels[one], tills[other - 1]))
        else:
            found.append((tills[other], labels[one - 1]))
    return found


def moments_told(plan, order):
    """The list of the moments of a plan for which the letters of an order stand."""
    return [plan[0][one] if letter == "L" else plan[1][other]
            for (one, other), letter in zip(cells_of(order), order)]


def least_behind(label, till, gap, letter, moment):
    """The least moment of a letter of the other kind that is surely parted from one at a moment ahead of it."""
    if letter == "L":
        return moment + label[1] + gap[1] + 1 - till[0]
    return moment + till[1] + 1 - label[0] - gap[0]


def follows(book, label, till, gap, plan, order):
    """Whether a plan parts each bad cell surely as a good order does."""
    check_order(book, order)
    moments = moments_told(plan, order)
    return all([moments[later] >= least_behind(label, till, gap, order[elder], moments[elder])
                for elder, later in partings(book, order)])


def order_followed(book, label, till, gap, plan):
    """The least good order that a plan follows, None if the plan is not safe."""
    if not is_safe(book, label, till, gap, plan):
        return None
    needed = _tills_needed(book, label, till, gap, plan)
    order = ""
    one = other = 0
    for _ in range(2 * len(needed)):
        if one < len(needed) and other >= needed[one]:
            order += "L"
            one += 1
        else:
            order += "T"
            other += 1
    return order


def _tills_needed(book, label, till, gap, plan):
    """For each change how many the till takes over ahead of it, in all orders that a safe plan follows."""
    many = len(book) - 1
    needed = [0] * many
    for one, other in bad_cells(book):
        if one > 0 and other < many:
            if plan[0][one - 1] >= least_behind(label, till, gap, "T", plan[1][other]):
                needed[one - 1] = max(needed[one - 1], other + 1)
    return needed
