"""Judges of LOGS, WISHES and CHAINS by Fraction: BARS between their ends, and all members of a CHAIN one by one."""

from fractions import Fraction

from tests import grids
from tests.judges import pair, quotient


def grid_for(log, more=()):
    """All Fractions at which a zone can begin or end, with one between each two and beyond them."""
    ends = {quotient(row[2]) for row in log} | {quotient(row[3]) for row in log}
    ends |= {2 * quotient(row[2]) - quotient(row[3]) for row in log} | set(more)
    ordered = sorted(ends | {min(ends, default=0) - 9, max(ends, default=0) + 9})
    found = [ordered[0]]
    for x in ordered[1:]:
        found += [(found[-1] + x) / 2, x]
    return found


def bars(levels, log, level, others=()):
    """The BARS of a level, with others, a tuple of WISHES, as members that it can't have."""
    rows = [row for row in log if row[0] >= level]
    alone = [quotient(x) for wide, x in others if wide >= level]
    grid = grid_for(rows, alone)
    return grids.unmarked([x in alone or any(grids.shuts_out(levels, row, x) for row in rows) for x in grid], grid)


def is_let(gap, bar):
    if gap is None:
        return True
    over = grids.excess(gap, quotient(bar[0]), quotient(bar[2]))
    return over < 0 or (over == 0 and not bar[1] and not bar[3])


def wrong_way(row):
    return (row[1] == "down" and quotient(row[3]) > quotient(row[2])) or (
        row[1] == "up" and quotient(row[3]) < quotient(row[2]))


def is_possible(levels, log, others=()):
    """Whether a LOG is possible, with others as no members for their levels."""
    for row in log:
        y = quotient(row[3])
        if wrong_way(row) or any(wide[0] >= row[0] and grids.shuts_out(levels, wide, y) for wide in log):
            return False
        if any(level >= row[0] and y == quotient(x) for level, x in others):
            return False
    return all(is_let(gap, bar) for level, (_, gap) in enumerate(levels) for bar in bars(levels, log, level, others))


def wished(members):
    """The ROWS that ask for the members of WISHES."""
    return tuple((level, "member", x, x) for level, x in members)


def members_of(chain, level, size):
    """All members for a level up to this size, ascending; beyond it, two far ones on each side."""
    (start, step), parts = [quotient(x) for x in chain[0]], chain[1]
    found, x = set(), start
    while x <= max(size, start) + 2 * step:
        found |= {x, -x}
        x += step
    for marks, fills in parts[:level + 1]:
        found |= {quotient(mark) for mark in marks}
        for fill in fills:
            low, high, length = [quotient(end) for end in fill]
            while low <= high:
                found.add(low)
                low += length
    return sorted(found)


def shows(levels, chain, log, size=60):
    """Whether a CHAIN shows a LOG whose points lie within size of 0, by all its members."""
    for level, (_, gap) in enumerate(levels):
        members = members_of(chain, level, size)
        if not all(grids.row_holds(levels, members, row) for row in log if row[0] == level):
            return False
        if gap is not None and any(grids.excess(gap, u, v) > 0 for u, v in zip(members, members[1:])):
            return False
    return True


def is_member(chain, level, x, size=60):
    return quotient(x) in members_of(chain, level, size)


def possible_log(rng, most):
    """LEVELS and a LOG of them, of at most so many ROWS, that is possible; all within 20 of 0."""
    while True:
        levels, log = grids.some_log(rng, most)
        kept = ()
        for row in log:
            if is_possible(levels, kept + (row,)):
                kept += (row,)
        if len(kept) * 2 >= len(log):
            return tightened(rng, levels, kept), kept


def tightened(rng, levels, log):
    """The LEVELS with some GAPS that a LOG just keeps."""
    found = []
    for level, (side, gap) in enumerate(levels):
        needs = [(quotient(bar[2]) - quotient(bar[0]), bar[1] or bar[3]) for bar in bars(levels, log, level)]
        if needs and rng.random() < 0.5:
            width, is_in = max(needs)
            gap = (pair(width + (Fraction(1, 3) if is_in else 0)), (0, 1))
        found.append((side, gap))
    return tuple(found)


def interesting(rng, levels, log, many):
    """FRACTIONS at ends of zones, near to them, and anywhere."""
    ends = [x for x in grid_for(log) if abs(x) < 40]
    picked = rng.sample(ends, min(len(ends), many))
    beside = [x + rng.choice([-1, 1]) * Fraction(1, rng.choice([2, 4, 100])) for x in picked[:many // 2]]
    return [pair(x) for x in picked + beside + [Fraction(rng.randint(-30, 30), rng.choice([1, 2, 3]))]]
