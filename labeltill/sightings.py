"""Sightings: prices that a line showed at told moments, of numbers that are not told."""

from labeltill.kinds import is_integer
from labeltill.spans import taken_over


def numbers_of(line, sighting):
    """The ascending list of the numbers that a sighting by itself can be of."""
    moment, price = sighting
    return [number for number, told in enumerate(line.book.prices())
            if told == price and line.can_show(number, moment)]


def _choices(line, sightings):
    """For each sighting the list of the numbers that it can be of by itself."""
    return [numbers_of(line, sighting) for sighting in sightings]


def latenesses_told(line, sightings):
    """The list of how late each change is that is taken over just at a sighting; below 0 where it is sent later."""
    return [moment - sent for moment, _ in sightings for sent in line.sent()]


def is_seen(line, sightings):
    """Whether some course shows all sightings."""
    return _least(_choices(line, sightings)) is not None


def course_for(line, sightings):
    """A course that shows all sightings, or None."""
    numbers = least_numbers(line, sightings)
    if numbers is None:
        return None
    return line.course_with([(moment, number) for (moment, _), number in zip(sightings, numbers)])


def least_numbers(line, sightings):
    """The list of the least number that each sighting can be of if all are seen, or None."""
    return _least(_choices(line, sightings))


def greatest_numbers(line, sightings):
    """The list of the greatest number that each sighting can be of if all are seen, or None."""
    return _greatest(_choices(line, sightings))


def seen_numbers(line, sightings):
    """The list of the ascending lists of the numbers that each sighting can be of if all are seen, or None."""
    choices = _choices(line, sightings)
    least = _least(choices)
    if least is None:
        return None
    # What is from the least number to the greatest one is between those of the sightings beside it, too.
    return [[number for number in numbers if low <= number <= high]
            for numbers, low, high in zip(choices, least, _greatest(choices))]


def _climb(choices):
    """The least numbers of the choices, never falling, up to the first choice of which none is left."""
    found = []
    least = 0
    for numbers in choices:
        left = [number for number in numbers if number >= least]
        if len(left) == 0:
            return found
        least = left[0]
        found.append(least)
    return found


def _least(choices):
    found = _climb(choices)
    return found if len(found) == len(choices) else None


def _greatest(choices):
    found = []
    for numbers in choices[::-1]:
        left = [number for number in numbers if len(found) == 0 or number <= found[0]]
        if len(left) == 0:
            return None
        found = [left[-1]] + found
    return found


def numbers_at(line, sightings, moment):
    """The ascending list of the numbers that a further look at a moment can be of, beside all sightings."""
    choices = _choices(line, sightings)
    least = _least(choices)
    if least is None:
        return []
    # By the place of the look among the sightings: what those ahead leave, and what those behind leave.
    lows = [0] + least
    highs = _greatest(choices) + [len(line.book) - 1]
    first, last = taken_over([at for at, _ in sightings], moment)
    low, high = line.stretch(moment)
    return [number for number in range(low, high + 1)
            if any([lows[place] <= number <= highs[place] for place in range(first, last + 1)])]


def prices_seen_at(line, sightings, moment):
    """The ascending list of the different prices that a further look at a moment can be of."""
    return sorted({line.book[number] for number in numbers_at(line, sightings, moment)})


def surely_at(line, sightings, moment):
    """The price of a further look at a moment, if there is just one, otherwise None."""
    prices = prices_seen_at(line, sightings, moment)
    return prices[0] if len(prices) == 1 else None


def denial(line, sightings):
    """A denial of sightings, None if they can be."""
    choices = _choices(line, sightings)
    found = _climb(choices)
    return None if len(found) == len(choices) else found


def is_denial(line, sightings, thing):
    """Whether any value is a denial of sightings."""
    if not isinstance(thing, list) or len(thing) >= len(sightings):
        return False
    if not all([is_integer(item) and item >= 0 for item in thing]):
        return False
    choices = _choices(line, sightings)
    ahead = [0] + thing
    for least, item, numbers in zip(ahead, thing, choices):
        if any([least <= number < item for number in numbers]):
            return False
    return all([number < ahead[-1] for number in choices[len(thing)]])
