"""STRETCHES of FRACTIONS, the zones of ROWS, BARS, and what GAPS let."""

from everyformat.errors import Unfit
from everyformat.ratios import (
    is_at_most, is_fraction, is_less, lesser, minus, plus, scale_for, size_of, times,
)
from everyformat.rows import goes_right
from everyformat.shapes import check_place, is_truth, is_tuple_of, tupled


def is_stretch(thing):
    if not is_tuple_of(thing, 4) or not _is_end(thing[0], thing[1]) or not _is_end(thing[2], thing[3]):
        return False
    low, low_in, high, high_in = thing
    if low is None or high is None or is_less(low, high):
        return True
    return low == high and low_in and high_in


def _is_end(end, is_in):
    if end is None:
        return is_in is False
    return is_fraction(end) and is_truth(is_in)


def is_stretches(thing):
    if not isinstance(thing, tuple) or not all([is_stretch(stretch) for stretch in thing]):
        return False
    return all([is_apart(one, other) for one, other in zip(thing, thing[1:])])


def is_apart(one, other):
    """Whether a FRACTION is right of the one and left of the other STRETCH."""
    if one[2] is None or other[0] is None or is_less(other[0], one[2]):
        return False
    return is_less(one[2], other[0]) or not (one[3] or other[1])


def has(stretch, x):
    """Whether x is in stretch."""
    low, low_in, high, high_in = stretch
    if low is not None and not is_less(low, x) and not (low_in and is_at_most(low, x)):
        return False
    return high is None or is_less(x, high) or (high_in and is_at_most(x, high))


def in_stretches(stretches, x):
    return stretch_at(stretches, x) is not None


def stretch_at(stretches, x):
    for stretch in stretches:
        if has(stretch, x):
            return tupled(stretch)
    return None


def _is_first_low(one, other):
    """Whether the low end of the one STRETCH is at least as far left as that of the other."""
    if one[0] is None or other[0] is None:
        return one[0] is None
    if is_less(one[0], other[0]):
        return True
    return is_at_most(one[0], other[0]) and (one[1] or not other[1])


def _is_last_high(one, other):
    """Whether the high end of the one STRETCH is at least as far right as that of the other."""
    if one[2] is None or other[2] is None:
        return one[2] is None
    if is_less(other[2], one[2]):
        return True
    return is_at_most(other[2], one[2]) and (one[3] or not other[3])


def _hull(one, other):
    """The STRETCH of two that have no FRACTION between them."""
    first = one if _is_first_low(one, other) else other
    last = one if _is_last_high(one, other) else other
    return tupled((first[0], first[1], last[2], last[3]))


def _from_left(some):
    """The STRETCHES as a list, by their low ends."""
    scale = scale_for([stretch[0] for stretch in some if stretch[0] is not None])
    open_left = [stretch for stretch in some if stretch[0] is None]
    others = [stretch for stretch in some if stretch[0] is not None]
    return open_left + sorted(others, key=lambda x: (x[0][0] * scale // x[0][1], not x[1]))


def join_stretches(some):
    joined = []
    for stretch in _from_left(some):
        if joined and not is_apart(joined[-1], stretch):
            joined[-1] = _hull(joined[-1], stretch)
        else:
            joined.append(tupled(stretch))
    return tuple(joined)


def meet_stretches(stretches, others):
    met = []
    one, other = 0, 0
    while one < len(stretches) and other < len(others):
        left, right = stretches[one], others[other]
        if not _is_before(left, right) and not _is_before(right, left):
            met.append(_common(left, right))
        if _is_last_high(left, right):
            other += 1
        else:
            one += 1
    return tuple(met)


def _is_before(one, other):
    """Whether all of the one STRETCH is left of all of the other."""
    if one[2] is None or other[0] is None or is_less(other[0], one[2]):
        return False
    return is_less(one[2], other[0]) or not (one[3] and other[1])


def _common(one, other):
    """The STRETCH of what is in both of two that have something in common."""
    first = other if _is_first_low(one, other) else one
    last = other if _is_last_high(one, other) else one
    return tupled((first[0], first[1], last[2], last[3]))


def rest_of(stretches):
    rest = []
    low, low_in = None, False
    for stretch in stretches:
        if stretch[0] is not None:
            rest.append((low, low_in, tupled(stretch[0]), not stretch[1]))
        if stretch[2] is None:
            return tuple(rest)
        low, low_in = tupled(stretch[2]), not stretch[3]
    rest.append((low, low_in, None, False))
    return tuple(rest)


def run_with(stretches, stretch):
    run = tupled(stretch)
    for other in stretches:
        if not is_apart(other, stretch) and not is_apart(stretch, other):
            run = _hull(run, other)
    return run


def zone(levels, row):
    check_place(row[0], len(levels))
    _, kind, point, result = tupled(row)
    if point == result or not goes_right(row):
        return ()
    if kind == "down":
        return ((result, False, point, True),)
    if kind == "up":
        return ((point, True, result, False),)
    other = minus(plus(point, point), result)
    side = levels[row[0]][0]
    if is_less(point, result):
        return ((other, side == "low", result, False),)
    return ((result, False, other, side == "high"),)


def bars(levels, log, level):
    check_place(level, len(levels))
    return join_stretches([stretch for row in log if row[0] >= level for stretch in zone(levels, row)])


def is_free(levels, log, level, x):
    check_place(level, len(levels))
    return not any([in_stretches(zone(levels, row), x) for row in log if row[0] >= level])


def excess(gap, u, v):
    if gap is None or is_less(v, u):
        raise Unfit()
    return minus(minus(minus(v, u), gap[0]), times(gap[1], lesser(size_of(u), size_of(v))))


def lets(gap, stretch):
    if gap is None:
        return True
    low, low_in, high, high_in = stretch
    if low is None or high is None:
        return False
    over_it = excess(gap, low, high)
    return over_it[0] < 0 or (over_it[0] == 0 and not low_in and not high_in)
