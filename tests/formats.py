"""CHAINS at random with all their members in a window, counted one by one."""

from fractions import Fraction

from tests.grids import rounded
from tests.judges import pair, pairs

__all__ = ["inmost", "rounded", "some_chain", "some_point"]

SIZE = 50


def some_chain(rng, most=4):
    """A triple: LEVELS, a CHAIN, and for each level its members within 2 * SIZE of 0, ascending."""
    many = rng.randint(1, most)
    bottoms = [1, 2, 3]
    start, step = [Fraction(rng.randint(1, size), rng.choice(bottoms)) for size in (24, 9)]
    parts = _some_parts(rng, many, start)
    chain = (pairs(start, step), tuple((pairs(*marks), tuple(pairs(*fill) for fill in fills)) for marks, fills in parts))
    return _some_levels(rng, many), chain, _members(start, step, parts)


def _some_levels(rng, many):
    gaps = [(pair(Fraction(rng.randint(1, 30), 2)), pair(Fraction(rng.choice([0, 25, 50, 90]), 100))) for _ in range(many)]
    return tuple((rng.choice(["low", "high"]), rng.choice([None, gap, gap])) for gap in gaps)


def _some_parts(rng, many, start):
    parts = [([], []) for _ in range(many)]
    at = -start
    while True:
        at += Fraction(rng.randint(1, 12), rng.choice([1, 2, 3, 6]))
        step, length = Fraction(rng.randint(1, 5), rng.choice([1, 2, 3])), rng.choice([0, 0, 1, 2, 5])
        if at + step * length >= start:
            return parts
        marks, fills = rng.choice(parts)
        if length:
            fills.append((at, at + step * length, step))
        else:
            marks.append(at)
        at += step * length


def _members(start, step, parts):
    """For each level its members in the window, ascending."""
    found, x = {}, start
    while x <= 2 * SIZE:
        found[x] = found[-x] = True
        x += step
    members = []
    for marks, fills in parts:
        for low, high, fill_step in [(mark, mark, 1) for mark in marks] + fills:
            while low <= high:
                found[low] = True
                low += fill_step
        members.append(sorted(found))
    return members


def inmost(members):
    return [x for x in members if abs(x) <= SIZE]


def some_point(rng, members):
    """A point within SIZE of 0: a member, the middle of two neighbours, or any one."""
    near = inmost(members)
    way = rng.random()
    if way < 0.3:
        return rng.choice(near)
    if way < 0.6 and len(near) > 1:
        at = rng.randrange(len(near) - 1)
        return (near[at] + near[at + 1]) / 2
    return Fraction(rng.randint(-SIZE * 6, SIZE * 6), 6)
