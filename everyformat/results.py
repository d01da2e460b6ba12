"""The results that a further rounding can still have.

How far a result can be is asked for each side of the point and for each GAP by itself: with the distance
grows what the ROW shuts out, so there is one distance up to which it goes together with the LOG.
"""

from everyformat.ratios import in_order, is_at_most, is_less, minus, over, plus, size_of, times
from everyformat.rows import told
from everyformat.shapes import tupled
from everyformat.told import check_asked, member_status
from everyformat.zones import bars, excess, in_stretches, lets, meet_stretches, rest_of, run_with, zone

LEFT = (-1, 1)
RIGHT = (1, 1)


def results(levels, log, level, kind, point):
    check_asked(levels, log, (level,))
    point = tupled(point)
    low, low_in, high, high_in = point, True, point, True
    if kind != "up":
        low, low_in = _end(levels, log, (level, kind, point, LEFT))
    if kind != "down":
        high, high_in = _end(levels, log, (level, kind, point, RIGHT))
    return meet_stretches(rest_of(bars(levels, log, level)), ((low, low_in, high, high_in),))


def _end(levels, log, aim):
    """How far results go, and whether so far, for an aim: a level, a kind, a point and a side."""
    level, _, point, side = aim
    reaches = _told_reach(levels, log, aim)
    for narrow in range(level + 1):
        if levels[narrow][1] is not None:
            reaches.append(_gap_reach(levels, bars(levels, log, narrow), narrow, aim))
    if not reaches:
        return (None, False)
    least = in_order([distance for distance, _ in reaches])[0]
    reached = all([is_in for distance, is_in in reaches if distance == least])
    return (plus(point, times(side, least)), reached)


def _zone_at(levels, aim, distance):
    """What a result at this distance shuts out."""
    level, kind, point, side = aim
    return zone(levels, (level, kind, point, plus(point, times(side, distance))))


def _told_reach(levels, log, aim):
    """A list of how far results go for what is told, and whether so far; () if nothing told is in their way."""
    level, kind, point, side = aim
    known = told(levels, log, level)
    ways = [size_of(minus(x, point)) for x in known if kind == "near" or minus(x, point)[0] * side[0] >= 0]
    if not ways:
        return []
    nearest = in_order(ways)[0]
    shut = _zone_at(levels, aim, nearest)
    return [(nearest, not any([in_stretches(shut, x) for x in known]))]


def _run_at(levels, shut, aim, distance):
    """The BAR that BARS have together with what a result at this distance, more than 0, shuts out."""
    return run_with(shut, _zone_at(levels, aim, distance)[0])


def _turns(shut, point):
    """The distances, ascending, between which a run begins and ends with the same things and grows evenly."""
    ends = [end for bar in shut for end in (bar[0], bar[2])] + [(0, 1), point]
    return in_order([size_of(minus(x, point)) for x in ends] + [size_of(plus(x, point)) for x in ends])


def _gap_reach(levels, shut, narrow, aim):
    """How far results go for the GAP of a level whose BARS these are, and whether so far."""
    gap = levels[narrow][1]
    turns = _turns(shut, aim[2])
    low, high = 0, len(turns)
    while high - low > 1:
        at = (low + high) // 2
        if lets(gap, _run_at(levels, shut, aim, turns[at])):
            low = at
        else:
            high = at
    first = turns[low]
    last = turns[high] if high < len(turns) else None
    length = (3, 1) if last is None else minus(last, first)
    ways = [plus(first, times(length, part)) for part in ((1, 3), (2, 3))]
    runs = [_run_at(levels, shut, aim, way) for way in ways]
    return _root((first, last), ways, runs, [excess(gap, run[0], run[2]) for run in runs])


def _root(turns, ways, runs, over_it):
    """Where between two turns the excess, known at two ways between them, is 0 or leaps above it."""
    first, last = turns
    is_in = not runs[0][1] and not runs[0][3]
    slope = over(minus(over_it[1], over_it[0]), minus(ways[1], ways[0]))
    if slope[0] == 0:
        is_let = over_it[0][0] < 0 or (over_it[0][0] == 0 and is_in)
        return (last, False) if is_let else (first, True)
    root = minus(ways[0], over(over_it[0], slope))
    if is_at_most(root, first):
        return (first, True)
    if last is not None and is_at_most(last, root):
        return (last, False)
    return (root, is_in)


def sure_result(levels, log, level, kind, point):
    return _only_one(results(levels, log, level, kind, point))


def _only_one(stretches):
    """The FRACTION of STRETCHES that have just one, None for others."""
    if len(stretches) == 1 and stretches[0][0] is not None and stretches[0][0] == stretches[0][2]:
        return stretches[0][0]
    return None


def farthest(levels, log, level, kind, point):
    found = results(levels, log, level, kind, point)
    low, low_in, high, high_in = found[0][:2] + found[-1][2:]
    if low is None or high is None:
        return None
    left, right = minus(point, low), minus(high, point)
    if is_less(left, right):
        return (size_of(right), high_in)
    if is_less(right, left):
        return (size_of(left), low_in)
    return (size_of(left), low_in or high_in)


def row_status(levels, log, row):
    level, kind, point, result = tupled(row)
    if kind == "member":
        return member_status(levels, log, level, result)
    found = results(levels, log, level, kind, point)
    if not in_stretches(found, result):
        return "never"
    return "some" if _only_one(found) is None else "sure"
