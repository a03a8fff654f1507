"""Whether any value is what it has to be."""


def is_integer(thing):
    """Whether any value is an integer; True and False are none."""
    return isinstance(thing, int) and not isinstance(thing, bool)


def is_price(thing):
    """Whether any value is a price."""
    return is_integer(thing) and thing >= 0


def is_board(thing):
    """Whether any value is a board, or a gap: a tuple (least, most)."""
    if not isinstance(thing, tuple) or len(thing) != 2:
        return False
    least, most = thing
    return is_integer(least) and is_integer(most) and 0 <= least <= most


def is_change(thing):
    """Whether any value is a change: a tuple (moment, price)."""
    if not isinstance(thing, tuple) or len(thing) != 2:
        return False
    moment, price = thing
    return is_integer(moment) and is_price(price)


def is_index(thing, many):
    """Whether any value is an integer from 0 on below many."""
    return is_integer(thing) and 0 <= thing < many
