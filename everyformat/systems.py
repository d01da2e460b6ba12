"""SYSTEMS of straight conditions: points, weights that show there is none, greatest values."""

from everyformat.corners import (
    Corner, climbs, closing_weights, edge_at, head_weights, point_at, stuck_pair, way_at, whole_form,
)
from everyformat.errors import CanNot
from everyformat.ratios import fraction, is_fraction, negated, plus, sign_of, times
from everyformat.shapes import is_truth, is_tuple_of
from everyformat.straight import constant_form, form_at, is_form, plus_forms, scaled_form


def is_system(thing, many):
    return isinstance(thing, tuple) and all([_is_pair(pair, many) for pair in thing])


def _is_pair(thing, many):
    return is_tuple_of(thing, 2) and is_form(thing[0], many) and is_truth(thing[1])


def holds_at(system, worths):
    return all([_is_met(sign_of(form_at(form, worths)), strict) for form, strict in system])


def _is_met(sign, strict):
    return sign > 0 or (sign == 0 and not strict)


def solve(system, many):
    corner = Corner(system, many)
    stuck = stuck_pair(corner)
    if stuck is None:
        return ("point", point_at(corner))
    return ("closed", closing_weights(corner, stuck))


def _weighed_sum(system, weights, many):
    total = constant_form((0, 1), many)
    for (form, _), weight in zip(system, weights):
        if weight[0]:
            total = plus_forms(total, scaled_form(form, weight))
    return total


def _is_constant(form):
    return all([factor[0] == 0 for factor in form[1]])


def _are_weights(system, thing):
    if not is_tuple_of(thing, len(system)):
        return False
    return all([is_fraction(weight) and weight[0] >= 0 for weight in thing])


def _weighs_strict(system, weights):
    return any([strict and weight[0] > 0 for (_, strict), weight in zip(system, weights)])


def is_closing(system, thing):
    if not system or not _are_weights(system, thing):
        return False
    total = _weighed_sum(system, thing, len(system[0][0][1]))
    if not _is_constant(total) or total[0][0] > 0:
        return False
    return total[0][0] < 0 or _weighs_strict(system, thing)


def closed_lot(system, many):
    corner = Corner(system, many)
    stuck = stuck_pair(corner)
    if stuck is None:
        raise CanNot()
    # The FORMS of heads are independent of one another, so no pair with a weight can be left out.
    weights = closing_weights(corner, stuck)
    return tuple([place for place, weight in enumerate(weights) if weight[0]])


def greatest(form, system, many):
    corner = Corner(system, many)
    if stuck_pair(corner) is not None:
        return None
    made = whole_form(form)
    endless = climbs(corner, made)
    inner_point = point_at(corner)
    if endless is not None:
        return ("endless", inner_point, way_at(corner, endless[0], endless[1]))
    row = corner.row_of(made, 0)
    weights = tuple(head_weights(corner, row, made[0]))
    worth = fraction(row[0], corner.bottom * made[0])
    if _weighs_strict(system, weights):
        return ("neared", worth, weights, inner_point, edge_at(corner))
    return ("reached", worth, weights, inner_point)


def is_greatest(form, system, thing):
    if not isinstance(thing, tuple) or not thing:
        return False
    if thing[0] == "endless":
        return len(thing) == 3 and _is_endless(form, system, thing[1], thing[2])
    if thing[0] == "reached" and len(thing) == 4:
        return _is_limit(form, system, thing[1], thing[2]) and _is_point_of_worth(form, system, thing[3], thing[1])
    if thing[0] == "neared" and len(thing) == 5:
        if not _is_limit(form, system, thing[1], thing[2]) or not _weighs_strict(system, thing[2]):
            return False
        eased = [(pair[0], False) for pair in system]
        return _is_point(form, system, thing[3]) and _is_point_of_worth(form, eased, thing[4], thing[1])
    return False


def _are_worths(form, thing):
    return is_tuple_of(thing, len(form[1])) and all([is_fraction(worth) for worth in thing])


def _is_point(form, system, thing):
    return _are_worths(form, thing) and holds_at(system, thing)


def _is_point_of_worth(form, system, thing, worth):
    return _is_point(form, system, thing) and form_at(form, thing) == worth


def _is_limit(form, system, worth, weights):
    """Whether form plus the sum weighed by weights is worth everywhere."""
    if not is_fraction(worth) or not _are_weights(system, weights):
        return False
    total = plus_forms(form, _weighed_sum(system, weights, len(form[1])))
    return _is_constant(total) and total[0] == worth


def _is_endless(form, system, worths, way):
    if not _is_point(form, system, worths) or not _are_worths(form, way):
        return False
    if any([sign_of(_slope(pair[0], way)) < 0 for pair in system]):
        return False
    return sign_of(_slope(form, way)) > 0


def _slope(form, way):
    total = (0, 1)
    for factor, step in zip(form[1], way):
        total = plus(total, times(factor, step))
    return total


def values_of(form, system, many):
    high = greatest(form, system, many)
    if high is None:
        return None
    low = greatest(scaled_form(form, (-1, 1)), system, many)
    last, last_in = _end_of(high)
    first, first_in = _end_of(low)
    return (None if first is None else negated(first), first_in, last, last_in)


def _end_of(most):
    """The upper end of all values, and whether it is one of them; None, False if there is none."""
    if most[0] == "endless":
        return (None, False)
    return (most[1], most[0] == "reached")


def follows(system, form, strict, many):
    most = greatest(scaled_form(form, (-1, 1)), system, many)
    if most is None:
        return True
    if most[0] == "endless":
        return False
    return most[1][0] < 0 or (most[1][0] == 0 and (most[0] == "neared" or not strict))


def tight(system, many):
    return _freed(system, many)[1]


def inner(system, many):
    return point_at(_freed(system, many)[0])


def _freed(system, many):
    """A corner at which all pairs are above 0 that can be, and the set of the places of those that can't."""
    corner = Corner([(form, True) for form, _ in system], many)
    loose = {}
    while True:
        stuck = stuck_pair(corner)
        if stuck is None:
            return (corner, tuple(sorted(loose)))
        # At a point their FORMS are at least 0, and their weighed sum is at most 0.
        weights = closing_weights(corner, stuck)
        if corner.pair_row(stuck)[0] < 0 or _weighs_strict(system, weights):
            raise CanNot()
        for place, weight in enumerate(weights):
            if weight[0] and place not in loose:
                loose[place] = True
                corner.loosen(place)
