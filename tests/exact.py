"""Judges of LOGS, WISHES and CHAINS by Fraction: BARS between their ends, and all members of a CHAIN one by one."""

from fractions import Fraction

from tests import formats, grids, plays
from tests.judges import pair, quotient


def grid_for(log, more=()):
    """All Fractions at which a zone can begin or end, with one between each two and beyond them."""
    ends = {quotient(row[2]) for row in log} | {quotient(row[3]) for row in log}
    ends |= {2 * quotient(row[2]) - quotient(row[3]) for row in log} | set(more)
    ordered = sorted(ends | {min(ends, default=0) - 9, max(ends, default=0) + 9})
    found = [ordered[0]]
    for x in ordered[1:]:
        found += [(found[-1] + x) / 2, x]
    return found


def bars(levels, log, level, others=()):
    """The BARS of a level, with others, a tuple of WISHES, as members that it can't have."""
    rows = [row for row in log if row[0] >= level]
    alone = [quotient(x) for wide, x in others if wide >= level]
    grid = grid_for(rows, alone)
    return grids.unmarked([x in alone or any(grids.shuts_out(levels, row, x) for row in rows) for x in grid], grid)


def is_let(gap, bar):
    if gap is None:
        return True
    over = grids.excess(gap, quotient(bar[0]), quotient(bar[2]))
    return over < 0 or (over == 0 and not bar[1] and not bar[3])


def wrong_way(row):
    return (row[1] == "down" and quotient(row[3]) > quotient(row[2])) or (
        row[1] == "up" and quotient(row[3]) < quotient(row[2]))


def is_possible(levels, log, others=()):
    """Whether a LOG is possible, with others as no members for their levels."""
    for row in log:
        y = quotient(row[3])
        if wrong_way(row) or any(wide[0] >= row[0] and grids.shuts_out(levels, wide, y) for wide in log):
            return False
        if any(level >= row[0] and y == quotient(x) for level, x in others):
            return False
    return all(is_let(gap, bar) for level, (_, gap) in enumerate(levels) for bar in bars(levels, log, level, others))


def wished(members):
    """The ROWS that ask for the members of WISHES."""
    return tuple((level, "member", x, x) for level, x in members)


def members_of(chain, level, size):
    """All members for a level up to this size, ascending; beyond it, two far ones on each side."""
    (start, step), parts = [quotient(x) for x in chain[0]], chain[1]
    found, x = set(), start
    while x <= max(size, start) + 2 * step:
        found |= {x, -x}
        x += step
    for marks, fills in parts[:level + 1]:
        found |= {quotient(mark) for mark in marks}
        for fill in fills:
            low, high, length = [quotient(end) for end in fill]
            while low <= high:
                found.add(low)
                low += length
    return sorted(found)


def shows(levels, chain, log, size=60):
    """Whether a CHAIN shows a LOG whose points lie within size of 0, by all its members."""
    for level, (_, gap) in enumerate(levels):
        members = members_of(chain, level, size)
        if not all(grids.row_holds(levels, members, row) for row in log if row[0] == level):
            return False
        if gap is not None and any(grids.excess(gap, u, v) > 0 for u, v in zip(members, members[1:])):
            return False
    return True


def is_member(chain, level, x, size=60):
    return quotient(x) in members_of(chain, level, size)


def possible_log(rng, most):
    """LEVELS and a LOG of them, of at most so many ROWS, that is possible; all within 20 of 0."""
    while True:
        levels, log = grids.some_log(rng, most)
        kept = ()
        for row in log:
            if is_possible(levels, kept + (row,)):
                kept += (row,)
        if len(kept) * 2 >= len(log):
            return tightened(rng, levels, kept), kept


def tightened(rng, levels, log):
    """The LEVELS with some GAPS that a LOG just keeps."""
    found = []
    for level, (side, gap) in enumerate(levels):
        needs = [(quotient(bar[2]) - quotient(bar[0]), bar[1] or bar[3]) for bar in bars(levels, log, level)]
        if needs and rng.random() < 0.5:
            width, is_in = max(needs)
            gap = (pair(width + (Fraction(1, 3) if is_in else 0)), (0, 1))
        found.append((side, gap))
    return tuple(found)


def interesting(rng, levels, log, many):
    """FRACTIONS at ends of zones, near to them, and anywhere."""
    ends = [x for x in grid_for(log) if abs(x) < 40]
    picked = rng.sample(ends, min(len(ends), many))
    beside = [x + rng.choice([-1, 1]) * Fraction(1, rng.choice([2, 4, 100])) for x in picked[:many // 2]]
    return [pair(x) for x in picked + beside + [Fraction(rng.randint(-30, 30), rng.choice([1, 2, 3]))]]


def far_below(far, x):
    """The greatest far member that is at most x."""
    start, step = far
    if x >= start:
        return start + (x - start) // step * step
    if x >= -start:
        return -start
    return -start - -((x + start) // step) * step


def below_in(chain, level, x):
    """The greatest member for a level that is at most x."""
    far, parts = [quotient(end) for end in chain[0]], chain[1]
    found = [far_below(far, x)]
    for marks, fills in parts[:level + 1]:
        found += [quotient(mark) for mark in marks if quotient(mark) <= x]
        for fill in fills:
            low, high, step = [quotient(end) for end in fill]
            if low <= x:
                found.append(high if x >= high else low + (x - low) // step * step)
    return max(found)


def mirrored_chain(chain):
    parts = []
    for marks, fills in chain[1]:
        turned = tuple((pair(-quotient(high)), pair(-quotient(low)), step) for low, high, step in fills)
        parts.append((tuple(pair(-quotient(mark)) for mark in marks), turned))
    return (chain[0], tuple(parts))


def round_in(levels, chain, level, kind, x):
    """What x is rounded to in a CHAIN, however many members it has."""
    below = below_in(chain, level, x)
    if kind == "down":
        return below
    above = -below_in(mirrored_chain(chain), level, -x)
    if kind == "up" or (above - x, levels[level][0] == "low") < (x - below, True):
        return above
    return below


def played_in(levels, chain, program, worths):
    """The cells, the WAY and the LOG of a run in a CHAIN."""
    log = [(level, "member", pair(x), pair(x)) for level, x in zip(program[0], worths) if level is not None]

    def rounding(level, kind, point):
        result = round_in(levels, chain, level, kind, point)
        log.append((level, kind, pair(point), pair(result)))
        return result

    cells, way = plays.played(program, worths, rounding)
    return cells, way, tuple(log)


def some_formats(rng, gapped=False):
    """LEVELS, a CHAIN that keeps their GAPS, and its members in a window for each level.

    Only the widest level has a GAP, if gapped: one that is kept just so, or by some more.
    """
    levels, chain, members = formats.some_chain(rng, 3)
    found = [(side, None) for side, _ in levels]
    if gapped:
        g = rng.choice([Fraction(0), Fraction(0), Fraction(1, 4), Fraction(1, 2)])
        worst = max(v - u - g * min(abs(u), abs(v)) for u, v in zip(members[-1], members[-1][1:]))
        width = max(worst, quotient(chain[0][1]) - g * quotient(chain[0][0])) + rng.choice([0, 0, Fraction(1, 3)])
        if width > 0:
            found[-1] = (found[-1][0], (pair(width), pair(g)))
    return tuple(found), chain, members


def rows_in(rng, levels, chain, members, many):
    """ROWS that hold in a CHAIN."""
    log = []
    for _ in range(many):
        level, kind = rng.randrange(len(levels)), rng.choice(["down", "up", "near", "near", "member"])
        x = formats.some_point(rng, members[level]) if rng.random() < 0.3 else Fraction(rng.randint(-24, 24), rng.choice([1, 2]))
        if kind == "member":
            x = min(members[level], key=lambda one: abs(one - x))
        log.append((level, kind, pair(x), pair(x if kind == "member" else round_in(levels, chain, level, kind, x))))
    return tuple(log)
