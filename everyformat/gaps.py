"""Whether CHAINS keep the GAPS of LEVELS."""

from everyformat.chains import holds, spans_of
from everyformat.ratios import floor_of, is_less, minus, negated, over, plus, times, whole
from everyformat.shapes import check_place, tupled
from everyformat.zones import excess


def worst_gap(levels, chain, level):
    check_place(level, len(levels))
    gap = levels[level][1]
    if gap is None:
        return None
    worst = None
    for u, v in _wide_neighbours(tupled(chain), level):
        over_it = excess(gap, u, v)
        if worst is None or is_less(worst[0], over_it):
            worst = (over_it, (u, v))
    return worst[1]


def _wide_neighbours(chain, level):
    """Neighbours for a level among which are those of the greatest excess.

    Of far members these are the innermost ones, within a fill those nearest to 0: all others there are
    as far apart, and both are farther from 0.
    """
    (start, step), parts = chain
    own = parts[:level + 1]
    spans = [(negated(start), negated(start))] + spans_of(own) + [(start, start)]
    pairs = [(one[1], other[0]) for one, other in zip(spans, spans[1:])]
    for _, fills in own:
        pairs.extend([_inmost(fill) for fill in fills])
    return pairs + [(start, plus(start, step)), (negated(plus(start, step)), negated(start))]


def _inmost(fill):
    """The two neighbours within a fill between which 0 lies, or the nearest ones to 0."""
    low, high, step = fill
    many = floor_of(over(minus(high, low), step))
    before = floor_of(over(negated(low), step))
    first = plus(low, times(step, whole(max(0, min(before, many - 1)))))
    return (first, plus(first, step))


def keeps_gaps(levels, chain):
    for level, pair in enumerate(levels):
        worst = worst_gap(levels, chain, level)
        if worst is not None and excess(pair[1], worst[0], worst[1])[0] > 0:
            return False
    return True


def shows(levels, chain, log):
    return all([holds(levels, chain, row) for row in log]) and keeps_gaps(levels, chain)
