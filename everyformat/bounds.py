"""How great a FORM of the letters can be in the runs of a PROGRAM: one corner after the other is climbed from.

A value is a pair (worth, reached): the least FRACTION that is nowhere exceeded, and whether it is a value.
"""

from everyformat.corners import climbs, stuck_pair, whole_form
from everyformat.ratios import fraction, is_less, negated
from everyformat.search import Spot, open_places, root_of
from everyformat.straight import scaled_form

ENDLESS = (None, False)
# How many CONDITIONS are tried out, those first that are farthest from holding.
TRIES = 5


def most_of(field, pairs, form):
    """The greatest value of form in runs at which pairs hold, ENDLESS if it has no end, None if there is no run."""
    if field.fault is not None:
        return None
    made, best = whole_form(form), None
    root = root_of(field, pairs)
    nodes = [] if stuck_pair(root) is not None else [_climbed(root, made)]
    while nodes:
        corner, endless, value = nodes.pop()
        if not _is_more(value, best):
            continue
        places = open_places(field, Spot(corner, endless))
        if places:
            nodes.extend(_fewest_branches(field, corner, made, places[:TRIES], best))
        elif endless is not None:
            return ENDLESS
        else:
            best = value
    return best


def _climbed(corner, made):
    """A corner at which form is as great as it can be, how it has no end there, and its value."""
    endless = climbs(corner, made)
    if endless is not None:
        return (corner, endless, ENDLESS)
    row = corner.row_of(made, 0)
    return (corner, None, (fraction(row[0], corner.bottom * made[0]), row[1] == 0))


def _is_more(value, other):
    """Whether a value is greater than another one; ENDLESS is greater than all, each one greater than None."""
    if other is None or other[0] is None or value[0] is None:
        return other is None or (value[0] is None and other[0] is not None)
    if is_less(value[0], other[0]) or is_less(other[0], value[0]):
        return is_less(other[0], value[0])
    return value[1] and not other[1]


def _fewest_branches(field, corner, made, places, best):
    """The corners for the cases of that one of some CONDITIONS for which they are fewest."""
    fewest = None
    for place in places:
        branches = _branches(field, corner, made, place, best)
        if fewest is None or len(branches) < len(fewest):
            fewest = branches
        if len(fewest) <= 1:
            break
    return fewest


def _branches(field, corner, made, place, best):
    """The corners for the cases of a CONDITION that can be better than best, the greatest value last."""
    found = []
    for case in field.made[place]:
        branch = corner.grown(case)
        if stuck_pair(branch) is None:
            climbed = _climbed(branch, made)
            if _is_more(climbed[2], best):
                at = len([other for other in found if not _is_more(other[2], climbed[2])])
                found.insert(at, climbed)
    return found


def stretch_of(field, form):
    """The least STRETCH with all values of form, None if there is no run."""
    high = most_of(field, (), form)
    if high is None:
        return None
    low = most_of(field, (), scaled_form(form, (-1, 1)))
    return (None if low[0] is None else negated(low[0]), low[1], high[0], high[1])
