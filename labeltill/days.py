"""Days: buyers one behind another, and the sum of what they bring."""

from labeltill.charges import cells_at, charged
from labeltill.kinds import is_integer


def are_buyers(thing):
    """Whether any value is a list of buyers (looked, paid), one behind another."""
    if not isinstance(thing, list) or not all([_is_buyer(buyer) for buyer in thing]):
        return False
    return all([paid <= looked for (_, paid), (looked, _) in zip(thing, thing[1:])])


def _is_buyer(thing):
    if not isinstance(thing, tuple) or len(thing) != 2:
        return False
    looked, paid = thing
    return is_integer(looked) and is_integer(paid) and looked <= paid


def is_triple(thing):
    """Whether any value is a tuple of three integers."""
    return isinstance(thing, tuple) and len(thing) == 3 and all([is_integer(number) for number in thing])


def triples_at(label, till, buyer):
    """The ascending list of the triples (one, other, own) of numbers that a buyer can meet."""
    looked, paid = buyer
    low, high = label.book.at(paid)
    return [(one, other, own) for one, other in cells_at(label, till, looked, paid - looked)
            for own in range(low, high + 1)]


def worth_of(book, rule, worth, triple):
    """What a buyer who meets a triple brings: what is charged, over, or loss."""
    shown, asked, own = [book[number] for number in triple]
    paid = charged(rule, shown, asked)
    if worth == "charged":
        return paid
    return paid - shown if worth == "over" else own - paid


def is_row(label, till, buyers, thing):
    """Whether any value is a row: a list of one triple for each buyer that can be met together."""
    if not isinstance(thing, list) or len(thing) != len(buyers):
        return False
    for buyer, triple in zip(buyers, thing):
        if not is_triple(triple) or triple not in triples_at(label, till, buyer):
            return False
    return all([_never_falls(triple, later) for triple, later in zip(thing, thing[1:])])


def _never_falls(triple, later):
    """Whether no number of a later triple is less than that of the one ahead."""
    return triple[0] <= later[0] and triple[1] <= later[1] and triple[2] <= later[2]


def sum_of(book, rule, worth, row):
    """The sum of what the buyers of a row bring."""
    return sum([worth_of(book, rule, worth, triple) for triple in row])


def greatest_sum(label, till, buyers, rule, worth):
    """The greatest sum of all rows."""
    return sum_of(label.book, rule, worth, greatest_row(label, till, buyers, rule, worth))


def least_sum(label, till, buyers, rule, worth):
    """The least sum of all rows."""
    return sum_of(label.book, rule, worth, least_row(label, till, buyers, rule, worth))


def greatest_row(label, till, buyers, rule, worth):
    """The least row that has the greatest sum."""
    return _best_row(label, till, buyers, rule, worth, 1)


def least_row(label, till, buyers, rule, worth):
    """The least row that has the least sum."""
    return _best_row(label, till, buyers, rule, worth, -1)


def sums_from(label, till, buyers, rule, worth, sign):
    """For each buyer the dict from each triple to the best sum that can be brought from it on.

    The best sum is the greatest one for the sign 1, the least one for the sign -1.
    """
    tables = []
    rest = {}
    for buyer in buyers[::-1]:
        rest = {triple: worth_of(label.book, rule, worth, triple) + best_behind(triple, rest, sign)
                for triple in triples_at(label, till, buyer)}
        tables.append(rest)
    return tables[::-1]


def best_behind(triple, rest, sign):
    """The best integer of a dict for a triple that can be met behind another one, 0 if there is none."""
    # Each triple of a buyer has one of the next buyer that is not less; only behind the last buyer there is none.
    return sign * max([sign * rest[later] for later in rest if _never_falls(triple, later)], default=0)


def _best_row(label, till, buyers, rule, worth, sign):
    """The least row that has the best sum: the greatest one for the sign 1, the least one for the sign -1."""
    row = []
    ahead = (0, 0, 0)
    for sums in sums_from(label, till, buyers, rule, worth, sign):
        best = best_behind(ahead, sums, sign)
        ahead = [triple for triple in sums if sums[triple] == best and _never_falls(ahead, triple)][0]
        row.append(ahead)
    return row


def courses_of(label, till, buyers, row):
    """The tuple of a course of the label and one of the till with which the buyers meet a row."""
    shown = [(looked, one) for (looked, _), (one, _, _) in zip(buyers, row)]
    asked = [(paid, other) for (_, paid), (_, other, _) in zip(buyers, row)]
    return label.course_with(shown), till.course_with(asked)
