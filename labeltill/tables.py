"""Tables: bounds of what the buyers of a day bring, which are checked buyer by buyer."""

from labeltill.days import best_behind, is_triple, sums_from, triples_at, worth_of
from labeltill.kinds import is_integer


def upper_table(label, till, buyers, rule, worth):
    """The upper table of which each integer is the least."""
    return sums_from(label, till, buyers, rule, worth, 1)


def lower_table(label, till, buyers, rule, worth):
    """The lower table of which each integer is the greatest."""
    return sums_from(label, till, buyers, rule, worth, -1)


def is_upper_table(label, till, buyers, rule, worth, thing):
    """Whether any value is an upper table."""
    return _are_tables(label, till, buyers, thing) and _bounds(label.book, rule, worth, thing, 1)


def is_lower_table(label, till, buyers, rule, worth, thing):
    """Whether any value is a lower table."""
    return _are_tables(label, till, buyers, thing) and _bounds(label.book, rule, worth, thing, -1)


def _are_tables(label, till, buyers, thing):
    """Whether any value is a list of one dict for each buyer, from the buyer's triples to integers."""
    if not isinstance(thing, list) or len(thing) != len(buyers):
        return False
    return all([_is_table(sums, triples_at(label, till, buyer)) for sums, buyer in zip(thing, buyers)])


def _is_table(thing, triples):
    """Whether any value is a dict from each of some triples, and from nothing else, to an integer."""
    if not isinstance(thing, dict) or len(thing) != len(triples):
        return False
    # Keys differ, so that as many of them as there are triples are all of these.
    if not all([is_triple(key) and key in triples for key in thing]):
        return False
    return all([is_integer(bound) for bound in thing.values()])


def _bounds(book, rule, worth, tables, sign):
    """Whether no integer of tables is on the wrong side of what the triple and those behind it can bring.

    The right side is above for the sign 1, and below for the sign -1.
    """
    for sums, rest in zip(tables, tables[1:] + [{}]):
        for triple in sums:
            brought = worth_of(book, rule, worth, triple) + best_behind(triple, rest, sign)
            if sign * sums[triple] < sign * brought:
                return False
    return True
