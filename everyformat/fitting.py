"""CHAINS that show a LOG and have some members, and have not some others.

All ends of wide BARS and all told FRACTIONS are *cuts*. Beside an end that a level with a GAP can't have
stands one more cut, a *hair* away. Each cut is a mark of the narrowest level for which it is free; what lies
between two cuts is free or barred as a whole, and is filled if a level with a GAP has both cuts and all
between them.
"""

from everyformat.ratios import (
    ceiling_of, fraction, in_order, lesser, middle, minus, negated, over, plus, size_of, times, whole,
)
from everyformat.shapes import tupled
from everyformat.told import wide_bars
from everyformat.zones import excess, has


def step_from(levels, level):
    """The least E of the GAPS of this level and of all wider ones, None if all of them are None."""
    least = None
    for _, gap in levels[level:]:
        if gap is not None:
            least = tupled(gap[0]) if least is None else lesser(least, gap[0])
    return least


def chain_for(levels, log, members, others):
    """A CHAIN that shows log, in which each of members is one and none of others; it is sure that there is one."""
    levels = tupled(levels)
    shut = [wide_bars(levels, log, others, level) for level in range(len(levels))]
    needed = [row[3] for row in log] + [x for _, x in members]
    cuts = _cuts(levels, shut, needed)
    start = whole(max([ceiling_of(size_of(x)) for x in cuts], default=0) + 1)
    step = step_from(levels, 0)
    parts = _parts(levels, shut, (negated(start),) + cuts + (start,))
    return ((start, (1, 1) if step is None else step), parts)


def _cuts(levels, shut, needed):
    ends = [end for some in shut for bar in some for end in (bar[0], bar[2])]
    plain = in_order(needed + ends)
    hair = _hair(levels, shut, plain)
    beside = []
    for pair, some in zip(levels, shut):
        if pair[1] is not None:
            beside.extend([minus(bar[0], hair) for bar in some if bar[1]])
            beside.extend([plus(bar[2], hair) for bar in some if bar[3]])
    return in_order(list(plain) + beside)


def _hair(levels, shut, plain):
    """So little that two cuts stay apart, no step grows too great, and no BAR that was let by some amount too long."""
    room = [minus(other, one) for one, other in zip(plain, plain[1:])]
    for pair, some in zip(levels, shut):
        if pair[1] is not None:
            room.append(pair[1][0])
            room.extend([negated(excess(pair[1], bar[0], bar[2])) for bar in some if bar[1] or bar[3]])
    return fraction(1, max([ceiling_of(over((4, 1), some)) for some in room], default=1))


def _is_barred(stretches, x):
    """Whether x is in one of many STRETCHES, found by halves."""
    low, high = 0, len(stretches)
    while low < high:
        at = (low + high) // 2
        end = stretches[at][2]
        if end[0] * x[1] < x[0] * end[1]:
            low = at + 1
        else:
            high = at
    return low < len(stretches) and has(stretches[low], x)


def _level_of(shut, x):
    """The narrowest level for which x is free, None if there is none."""
    for level, some in enumerate(shut):
        if not _is_barred(some, x):
            return level
    return None


def _parts(levels, shut, cuts):
    """The parts of a CHAIN with these cuts, of which the first and the last one are far members."""
    marks, fills = [[] for _ in levels], [[] for _ in levels]
    free = [_level_of(shut, cut) for cut in cuts]
    for at in range(1, len(cuts)):
        level, between = _between(levels, shut, cuts[at - 1:at + 1], free[at - 1:at + 1])
        if len(between) == 1:
            marks[level].append(between[0])
        elif between:
            fills[level].append(between)
        if at < len(cuts) - 1 and free[at] is not None:
            marks[free[at]].append(cuts[at])
    return tuple([(tuple(some), tuple(others)) for some, others in zip(marks, fills)])


def _between(levels, shut, cuts, free):
    """What is needed between two cuts: a level, and nothing, one mark or one fill of it."""
    level = _level_of(shut, middle(cuts[0], cuts[1]))
    if level is None:
        return (None, ())
    gapped = [wide for wide in range(level, len(levels)) if levels[wide][1] is not None]
    if not gapped or None in free or max(free) > gapped[0]:
        return (level, ())
    step = step_from(levels, gapped[0])
    many = ceiling_of(over(minus(cuts[1], cuts[0]), step)) - 1
    if many < 1:
        return (level, ())
    first = plus(cuts[0], step)
    if many == 1:
        return (level, (first,))
    return (level, (first, plus(cuts[0], times(step, whole(many))), step))
