"""Steady lines: each change is late by one and the same lateness, which is not told."""

from labeltill.lines import Line
from labeltill.sightings import is_seen, latenesses_told
from labeltill.spans import ahead_of, behind, first_common, overlap, taken_over, united


def fits_steady(line, sightings, lateness):
    """Whether the sightings can be if each change is late by just this lateness."""
    return is_seen(Line(line.book, (lateness, lateness), line.sent()), sightings)


def latenesses(line, sightings):
    """The ascending list of the spans of all latenesses that fit."""
    turns = latenesses_told(line, sightings)
    # What is seen differs at a turn from what is seen less late, and more late; from one turn to the next it stays.
    begins = sorted(set([0] + [begin for turn in turns for begin in (turn, turn + 1) if begin >= 0]))
    ends = [begin - 1 for begin in begins[1:]] + [None]
    return united([(begin, end) for begin, end in zip(begins, ends) if fits_steady(line, sightings, begin)])


def steady_prices(line, sightings, moment):
    """The ascending list of the different prices that are shown at a moment with some lateness that fits."""
    heard = [ahead_of((moment, moment), late) for late in latenesses(line, sightings)]
    return sorted({price for span, prices in _states(line) for price in prices
                   if any([overlap(span, sent) is not None for sent in heard])})


def _states(line):
    """The tuples of a span and of the prices that the line shows at each moment of it if nothing is late."""
    sent = line.sent()
    begins = sorted(set(sent + [moment + 1 for moment in sent]))
    ends = [begin - 1 for begin in begins] + [None]
    prices = line.book.prices()
    found = [((None, ends[0]), prices[:1])]
    for begin, end in zip(begins, ends[1:]):
        low, high = taken_over(sent, begin)
        found.append(((begin, end), prices[low:high + 1]))
    return found


def parting_moment(line, sightings, first):
    """The least moment from a first one on at which two latenesses that fit show no price in common, or None."""
    fitting = latenesses(line, sightings)
    states = [(united([behind(span, late) for late in fitting]), prices) for span, prices in _states(line)]
    found = []
    for index, (spans, prices) in enumerate(states):
        for others, known in states[:index]:
            if not any([price in known for price in prices]):
                found.append(first_common(spans, others, first))
    return min([moment for moment in found if moment is not None], default=None)
