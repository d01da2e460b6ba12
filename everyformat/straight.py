"""FORMS: straight functions of some FRACTIONS, as pairs (fixed, factors)."""

from everyformat.errors import Unfit
from everyformat.ratios import is_fraction, negated, over, plus, times
from everyformat.shapes import check_place, is_tuple_of, tupled


def is_form(thing, many):
    if not is_tuple_of(thing, 2) or not is_fraction(thing[0]) or not is_tuple_of(thing[1], many):
        return False
    return all([is_fraction(factor) for factor in thing[1]])


def form_at(form, worths):
    total = tupled(form[0])
    for factor, worth in zip(form[1], worths):
        if factor[0]:
            total = plus(total, times(factor, worth))
    return total


def constant_form(x, many):
    return (tupled(x), ((0, 1),) * many)


def single_form(place, many):
    check_place(place, many)
    return ((0, 1), tuple([(1, 1) if at == place else (0, 1) for at in range(many)]))


def plus_forms(form, other):
    return (plus(form[0], other[0]), tuple([plus(x, y) for x, y in zip(form[1], other[1])]))


def minus_forms(form, other):
    """The FORM whose value is that of form less that of other."""
    return plus_forms(form, scaled_form(other, (-1, 1)))


def scaled_form(form, x):
    return (times(form[0], x), tuple([times(factor, x) for factor in form[1]]))


def longer_form(form, many):
    if len(form[1]) > many:
        raise Unfit()
    return (tupled(form[0]), tupled(form[1]) + ((0, 1),) * (many - len(form[1])))


def put_in(form, forms, many):
    total = constant_form(form[0], many)
    for factor, part in zip(form[1], forms):
        if factor[0]:
            total = plus_forms(total, scaled_form(part, factor))
    return total


def named_in(form):
    return tuple([place for place, factor in enumerate(form[1]) if factor[0]])


def solved_for(form, place):
    check_place(place, len(form[1]))
    factor = form[1][place]
    if factor[0] == 0:
        raise Unfit()
    others = [(0, 1) if at == place else x for at, x in enumerate(form[1])]
    return scaled_form((form[0], others), negated(over((1, 1), factor)))


def span_of(form, stretches):
    low, low_in = tupled(form[0]), True
    high, high_in = low, True
    for factor, stretch in zip(form[1], stretches):
        if factor[0]:
            first, first_in, last, last_in = stretch
            if factor[0] < 0:
                first, first_in, last, last_in = last, last_in, first, first_in
            low, low_in = _end_plus(low, factor, first), low_in and first_in
            high, high_in = _end_plus(high, factor, last), high_in and last_in
    return (low, low_in, high, high_in)


def _end_plus(end, factor, other):
    """An end of a STRETCH, moved by factor times an end of another one; None, no end, if one is None."""
    if end is None or other is None:
        return None
    return plus(end, times(factor, other))
