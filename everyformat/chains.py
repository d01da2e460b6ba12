"""CHAINS: formats within one another as values, their members, and rounding by them.

A part is looked through by halves, as its marks and its fills are ascending.
"""

from everyformat.ratios import (
    ceiling_of, floor_of, greater, is_at_most, is_fraction, is_less, lesser, minus, negated, over, plus,
    scale_for, times, whole,
)
from everyformat.shapes import check_place, is_tuple_of, tupled


def is_chain(levels, thing):
    if not is_tuple_of(thing, 2):
        return False
    far, parts = thing
    if not _is_far(far) or not is_tuple_of(parts, len(levels)):
        return False
    return all([_is_part(part) for part in parts]) and _are_apart(far[0], parts)


def _is_far(thing):
    return is_tuple_of(thing, 2) and all([is_fraction(x) and x[0] > 0 for x in thing])


def _is_part(thing):
    if not is_tuple_of(thing, 2) or not isinstance(thing[0], tuple) or not isinstance(thing[1], tuple):
        return False
    marks, fills = thing
    if not all([is_fraction(mark) for mark in marks]) or not all([_is_fill(fill) for fill in fills]):
        return False
    return _rises(marks) and _rises([fill[0] for fill in fills])


def _rises(fractions):
    return all([is_less(one, other) for one, other in zip(fractions, fractions[1:])])


def _is_fill(thing):
    if not is_tuple_of(thing, 3) or not all([is_fraction(x) for x in thing]) or thing[2][0] <= 0:
        return False
    many = over(minus(thing[1], thing[0]), thing[2])
    return many[1] == 1 and many[0] >= 1


def spans_of(parts):
    """The pairs of ends of all marks and fills, from left to right."""
    spans = []
    for marks, fills in tupled(parts):
        spans.extend([(mark, mark) for mark in marks])
        spans.extend([(fill[0], fill[1]) for fill in fills])
    scale = scale_for([span[0] for span in spans])
    return sorted(spans, key=lambda span: span[0][0] * scale // span[0][1])


def _are_apart(start, parts):
    spans = [(negated(start), negated(start))] + spans_of(parts) + [(start, start)]
    return all([is_less(one[1], other[0]) for one, other in zip(spans, spans[1:])])


def is_member(levels, chain, level, x):
    check_place(level, len(levels))
    return _last_member(chain, level, x, False) == tupled(x)


def round_by(levels, chain, level, kind, point):
    check_place(level, len(levels))
    if kind == "down":
        return _last_member(chain, level, point, False)
    if kind == "up":
        return _first_member(chain, level, point, False)
    below = _last_member(chain, level, point, False)
    above = _first_member(chain, level, point, False)
    back, forth = minus(point, below), minus(above, point)
    if is_less(back, forth):
        return below
    if is_less(forth, back):
        return above
    return below if levels[level][0] == "low" else above


def next_above(levels, chain, level, x):
    check_place(level, len(levels))
    return _first_member(chain, level, x, True)


def next_below(levels, chain, level, x):
    check_place(level, len(levels))
    return _last_member(chain, level, x, True)


def count_between(levels, chain, level, low, high):
    check_place(level, len(levels))
    if is_less(high, low):
        return 0
    far, parts = chain
    right = _many_far(far, high, False) - _many_far(far, low, True)
    left = _many_far(far, negated(low), False) - _many_far(far, negated(high), True)
    own = [_many_own(part, high, False) - _many_own(part, low, True) for part in parts[:level + 1]]
    return right + left + sum(own)


def mirrored_chain(levels, chain):
    far, parts = tupled(chain)
    return (far, tuple([_mirrored_part(marks, fills) for marks, fills in parts]))


def _mirrored_part(marks, fills):
    turned = [(negated(high), negated(low), step) for low, high, step in reversed(fills)]
    return (tuple([negated(mark) for mark in reversed(marks)]), tuple(turned))


def holds(levels, chain, row):
    level, kind, point, result = row
    check_place(level, len(levels))
    if kind == "member":
        return is_member(levels, chain, level, result)
    return round_by(levels, chain, level, kind, point) == tupled(result)


def _last_member(chain, level, x, strict):
    """The greatest member for a level that is at most x, or less than x if strict."""
    far, parts = chain
    last = _last_far(far, x, strict)
    for marks, fills in parts[:level + 1]:
        at = _many_first(marks, x, strict)
        if at > 0:
            last = greater(last, marks[at - 1])
        at = _many_first([fill[0] for fill in fills], x, strict)
        if at > 0:
            last = greater(last, _last_in(fills[at - 1], x, strict))
    return last


def _first_member(chain, level, x, strict):
    """The least member for a level that is at least x, or greater than x if strict."""
    far, parts = chain
    first = negated(_last_far(far, negated(x), strict))
    for marks, fills in parts[:level + 1]:
        at = _many_first(marks, x, not strict)
        if at < len(marks):
            first = lesser(first, marks[at])
        at = _many_first([fill[1] for fill in fills], x, not strict)
        if at < len(fills):
            first = lesser(first, _first_in(fills[at], x, strict))
    return first


def _goes_before(y, x, strict):
    """Whether y is at most x, or less than x if strict."""
    return is_less(y, x) if strict else is_at_most(y, x)


def _many_first(fractions, x, strict):
    """How many of these ascending FRACTIONS are at most x, or less than x if strict."""
    low, high = 0, len(fractions)
    while low < high:
        at = (low + high) // 2
        if _goes_before(fractions[at], x, strict):
            low = at + 1
        else:
            high = at
    return low


def _steps_below(low, step, x, strict):
    """The greatest number of steps from low that leads to at most x, or less than x if strict."""
    way = over(minus(x, low), step)
    return ceiling_of(way) - 1 if strict else floor_of(way)


def _steps_above(low, step, x, strict):
    """The least number of steps from low that leads to at least x, or more than x if strict."""
    way = over(minus(x, low), step)
    return floor_of(way) + 1 if strict else ceiling_of(way)


def _after(low, step, many):
    """What so many steps lead to from low."""
    return plus(low, times(step, whole(many)))


def _last_in(fill, x, strict):
    """The greatest member of a fill that begins before x."""
    low, high, step = fill
    if _goes_before(high, x, strict):
        return tupled(high)
    return _after(low, step, _steps_below(low, step, x, strict))


def _first_in(fill, x, strict):
    """The least member of a fill that ends after x."""
    low, _, step = fill
    if not _goes_before(low, x, not strict):
        return tupled(low)
    return _after(low, step, _steps_above(low, step, x, strict))


def _last_far(far, x, strict):
    start, step = far
    if _goes_before(start, x, strict):
        return _after(start, step, _steps_below(start, step, x, strict))
    if _goes_before(negated(start), x, strict):
        return negated(start)
    return negated(_after(start, step, _steps_above(start, step, negated(x), strict)))


def _many_far(far, x, strict):
    """How many far members greater than 0 are at most x, or less than x if strict."""
    start, step = far
    if not _goes_before(start, x, strict):
        return 0
    return _steps_below(start, step, x, strict) + 1


def _many_own(part, x, strict):
    """How many own members of a part are at most x, or less than x if strict."""
    marks, fills = part
    many = _many_first(marks, x, strict)
    for fill in fills[:_many_first([fill[0] for fill in fills], x, strict)]:
        low, _, step = fill
        many += floor_of(over(minus(_last_in(fill, x, strict), low), step)) + 1
    return many
