"""What a LOG says of members: which FRACTIONS are sure ones, which are none, and which can be had together."""

from everyformat.errors import Unfit
from everyformat.possible import is_possible
from everyformat.ratios import in_order
from everyformat.rows import told
from everyformat.shapes import check_place, tupled
from everyformat.zones import bars, in_stretches, join_stretches, lets, rest_of, run_with


def check_asked(levels, log, asked):
    """Raises NoPlace for the first of the levels that are asked for that is none, then Unfit if log can't be."""
    for level in asked:
        check_place(level, len(levels))
    if not is_possible(levels, log):
        raise Unfit()


def single(x):
    """The STRETCH of x alone."""
    return (tupled(x), True, tupled(x), True)


def member_status(levels, log, level, x):
    check_asked(levels, log, (level,))
    shut = [bars(levels, log, narrow) for narrow in range(level + 1)]
    if in_stretches(shut[level], x):
        return "never"
    if tupled(x) in told(levels, log, level) or _is_needed(levels, shut, x):
        return "sure"
    return "some"


def _is_needed(levels, shut, x):
    """Whether a GAP of the levels whose BARS these are does not let its level go without x."""
    return not all([lets(levels[narrow][1], run_with(shut[narrow], single(x))) for narrow in range(len(shut))])


def sure_members(levels, log, level):
    check_asked(levels, log, (level,))
    shut = [bars(levels, log, narrow) for narrow in range(level + 1)]
    ends = [bar[0] for some in shut for bar in some] + [bar[2] for some in shut for bar in some]
    needed = [x for x in in_order(ends) if not in_stretches(shut[level], x) and _is_needed(levels, shut, x)]
    return in_order(list(told(levels, log, level)) + needed)


def free_stretches(levels, log, level):
    check_asked(levels, log, (level,))
    return rest_of(bars(levels, log, level))


def can_have(levels, log, members, others):
    return why_not(levels, log, members, others) is None


def why_not(levels, log, members, others):
    members, others = tupled(members), tupled(others)
    check_asked(levels, log, [wish[0] for wish in members + others])
    for number, (level, x) in enumerate(members):
        if in_stretches(bars(levels, log, level), x):
            return ("shut", number)
    for number, (level, x) in enumerate(others):
        if x in told(levels, log, level) or any([level >= have[0] and x == have[1] for have in members]):
            return ("told", number)
    for level, pair in enumerate(levels):
        if pair[1] is not None:
            for bar in wide_bars(levels, log, others, level):
                if not lets(pair[1], bar):
                    return ("long", level, bar)
    return None


def wide_bars(levels, log, others, level):
    """The wide BARS of a level: its BARS, and what others ask to be no member for it."""
    alone = [single(x) for wide, x in others if wide >= level]
    return join_stretches(list(bars(levels, log, level)) + alone)
