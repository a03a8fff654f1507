"""Spans of moments: tuples (begin, end), None in the place of an end without bound.

Where no moment is left, None stands in the place of a span.
"""

EVER = (None, None)


def is_within(span, moment):
    """Whether a moment is in a span."""
    begin, end = span
    return (begin is None or begin <= moment) and (end is None or moment <= end)


def overlap(one, other):
    """The span of the moments that are in both spans, None if there are none."""
    begin = max([bound for bound in (one[0], other[0]) if bound is not None], default=None)
    end = min([bound for bound in (one[1], other[1]) if bound is not None], default=None)
    if begin is not None and end is not None and end < begin:
        return None
    return begin, end


def behind(span, gap):
    """The span of the moments to which a gap leads from those of a span."""
    return _moved(span[0], gap[0]), _moved(span[1], gap[1])


def ahead_of(span, gap):
    """The span of the moments from which a gap leads to one of a span."""
    return _moved_back(span[0], gap[1]), _moved_back(span[1], gap[0])


def window_of(sent, board, number):
    """The span of the moments at which a board that is sent changes so can show a number."""
    least, most = board
    begin = None if number == 0 else sent[number - 1] + least
    end = None if number == len(sent) else sent[number] + most
    return begin, end


def _moved(bound, by):
    return None if bound is None or by is None else bound + by


def _moved_back(bound, by):
    return None if bound is None or by is None else bound - by


def some_moment(span, otherwise):
    """A moment of a span at one of its bounds, or otherwise one that is told, if it has none."""
    begin, end = span
    if begin is not None:
        return begin
    return otherwise if end is None else end


def least_wait(moment, span, gap):
    """The least wait of a gap that leads from a moment into a span, where there is one."""
    least = gap[0]
    begin = span[0]
    return least if begin is None else max(least, begin - moment)


def united(spans):
    """The ascending list of the spans of all moments of some spans, a moment being between each two."""
    found = []
    for begin, end in sorted(spans, key=_begin_key):
        if len(found) > 0 and _touches(found[-1][1], begin):
            found[-1] = (found[-1][0], _later_end(found[-1][1], end))
        else:
            found.append((begin, end))
    return found


def _begin_key(span):
    # A begin without bound comes ahead of all others; None itself has no order.
    return (0, 0) if span[0] is None else (1, span[0])


def _touches(end, begin):
    """Whether no moment is left between the end of a span and the begin of one that does not begin earlier."""
    return end is None or begin is None or begin <= end + 1


def _later_end(one, other):
    return None if one is None or other is None else max(one, other)


def first_common(ones, others, first):
    """The least moment from a first one on that is in a span of each of two ascending lists, or None."""
    one = other = 0
    while one < len(ones) and other < len(others):
        common = overlap(ones[one], others[other])
        left = None if common is None else overlap(common, (first, None))
        if left is not None:
            return left[0]
        # The span that ends first has nothing in common with the later ones of the other list.
        if _later_end(ones[one][1], others[other][1]) == others[other][1]:
            one += 1
        else:
            other += 1
    return None


def taken_over(course, moment):
    """The tuple of the least and the greatest number that a course shows at a moment."""
    elder = [at for at in course if at < moment]
    newer = [at for at in course if at <= moment]
    return len(elder), len(newer)
