"""Latest: how late a board must be able to hear for sightings to be, and how early it need not hear."""

from labeltill.kinds import is_integer
from labeltill.lines import Line
from labeltill.sightings import denial, is_denial, is_seen, latenesses_told, least_numbers, numbers_of


def least_most(line, sightings):
    """The least most of a board with the least of the line such that the sightings can be, or None."""
    least = line.board[0]
    # A greater most opens a window to one more sighting only where a change is late by just this most.
    told = [late for late in latenesses_told(line, sightings) if late > least]
    board = _first_board(line, [(least, most) for most in sorted(set([least] + told))], sightings)
    return None if board is None else board[1]


def greatest_least(line, sightings):
    """The greatest least of a board with the most of the line such that the sightings can be, or None."""
    most = line.board[1]
    told = [late for late in latenesses_told(line, sightings) if 0 <= late < most]
    board = _first_board(line, [(least, most) for least in sorted(set([most] + told))[::-1]], sightings)
    return None if board is None else board[0]


def _first_board(line, boards, sightings):
    """The first of some boards, each of which allows all that those ahead of it do, with which sightings can be."""
    low = 0
    high = len(boards)
    while low < high:
        middle = (low + high) // 2
        if is_seen(_with_board(line, boards[middle]), sightings):
            high = middle
        else:
            low = middle + 1
    return boards[low] if low < len(boards) else None


def late_paper(line, sightings):
    """A paper (most, numbers, table) of the least most, None if there is none."""
    most = least_most(line, sightings)
    if most is None:
        return None
    least = line.board[0]
    table = None if most == least else denial(_with_board(line, (least, most - 1)), sightings)
    return most, least_numbers(_with_board(line, (least, most)), sightings), table


def is_late_paper(line, sightings, thing):
    """Whether any value is a paper of the least most."""
    if not isinstance(thing, tuple) or len(thing) != 3:
        return False
    most, numbers, table = thing
    least = line.board[0]
    if not is_integer(most) or most < least:
        return False
    if not _are_seen(_with_board(line, (least, most)), sightings, numbers):
        return False
    if most == least:
        return table is None
    return is_denial(_with_board(line, (least, most - 1)), sightings, table)


def _with_board(line, board):
    return Line(line.book, board, line.sent())


def _are_seen(line, sightings, thing):
    """Whether any value is a list of one number for each sighting, never falling, that it can be of by itself."""
    if not isinstance(thing, list) or len(thing) != len(sightings):
        return False
    for sighting, number in zip(sightings, thing):
        if not is_integer(number) or number not in numbers_of(line, sighting):
            return False
    return all([number <= later for number, later in zip(thing, thing[1:])])
