"""Judges of STRETCHES and LOGS that count on a grid, one FRACTION at a time."""

from fractions import Fraction

from tests.judges import pair, quotient


def is_in(stretch, x):
    low, low_in, high, high_in = stretch
    if low is not None and not (quotient(low) < x or (low_in and quotient(low) == x)):
        return False
    return high is None or x < quotient(high) or (high_in and x == quotient(high))


def marked(stretches, grid):
    return [any(is_in(stretch, x) for stretch in stretches) for x in grid]


def unmarked(marks, grid):
    """The STRETCHES whose ends stand at every second place of the grid, 0, 2, 4 ..; None at its ends."""
    found, start = [], None
    for at in range(len(grid) + 1):
        is_on = at < len(grid) and marks[at]
        if is_on and start is None:
            start = at
        if not is_on and start is not None:
            found.append(_between(grid, start, at - 1))
            start = None
    return tuple(found)


def _between(grid, first, last):
    low, low_in, high, high_in = None, False, None, False
    if first > 0:
        low, low_in = (grid[first], True) if first % 2 == 0 else (grid[first - 1], False)
    if last < len(grid) - 1:
        high, high_in = (grid[last], True) if last % 2 == 0 else (grid[last + 1], False)
    return (None if low is None else pair(low), low_in, None if high is None else pair(high), high_in)


def shuts_out(levels, row, x):
    """Whether x as a member for the level of row would keep row from holding."""
    level, kind, point, result = row[0], row[1], quotient(row[2]), quotient(row[3])
    if kind == "down":
        return result < x <= point
    if kind == "up":
        return point <= x < result
    if kind == "member" or x == result:
        return False
    near, far = abs(x - point), abs(result - point)
    return near < far or (near == far and (x < result) == (levels[level][0] == "low"))


def members_of(levels, log, level, grid):
    """All of the grid that can be members for a level."""
    rows = [row for row in log if row[0] >= level]
    return [x for x in grid if not any(shuts_out(levels, row, x) for row in rows)]


def rounded(levels, members, level, kind, point):
    """What point is rounded to by kind among members, an ascending list that goes beyond it on both sides."""
    below = max(x for x in members if x <= point)
    above = min(x for x in members if x >= point)
    if kind == "down":
        return below
    if kind == "up":
        return above
    if point - below == above - point:
        return below if levels[level][0] == "low" else above
    return below if point - below < above - point else above


def row_holds(levels, members, row):
    level, kind, point, result = row[0], row[1], quotient(row[2]), quotient(row[3])
    if kind == "member":
        return result in members
    return rounded(levels, members, level, kind, point) == result


def excess(gap, u, v):
    return v - u - quotient(gap[0]) - quotient(gap[1]) * min(abs(u), abs(v))


def is_possible(levels, log, grid):
    """Whether log is possible, by the FORMATS that have all of the grid that no ROW shuts out.

    More members never break a ROW that does not shut them out, and make gaps narrower; the grid is so
    fine that members at its places next to an end of a BAR are as good as all the FRACTIONS there.
    """
    for level, (_, gap) in enumerate(levels):
        members = members_of(levels, log, level, grid)
        if not all(row_holds(levels, members, row) for row in log if row[0] == level):
            return False
        if gap is not None and any(excess(gap, u, v) > 0 for u, v in zip(members, members[1:])):
            return False
    return True


def fine_grid(size, parts):
    return [Fraction(number, parts) for number in range(-size * parts, size * parts + 1)]


def some_gap(rng):
    if rng.random() < 0.4:
        return None
    return (pair(Fraction(rng.randint(1, 16), 2)), pair(rng.choice([0, 0, Fraction(1, 4), Fraction(1, 2)])))


def some_levels(rng, most):
    return tuple((rng.choice(["low", "high"]), some_gap(rng)) for _ in range(rng.randint(1, most)))


def some_row(rng, levels, size):
    """A ROW of halves that mostly goes right."""
    kind = rng.choice(["down", "up", "near", "near", "member"])
    point, far = Fraction(rng.randint(-size, size), 2), Fraction(rng.randint(0, 6), 2)
    shift = {"down": -far, "up": far, "near": rng.choice([-far, far]), "member": 0}[kind]
    if rng.random() < 0.05:
        shift = -shift
    return (rng.randrange(len(levels)), kind, pair(point), pair(point + shift))


def some_log(rng, most):
    """LEVELS and a LOG of them, of at most so many ROWS; all within 20 of 0."""
    levels, size = some_levels(rng, 3), rng.choice([3, 6, 12])
    return levels, tuple(some_row(rng, levels, size) for _ in range(rng.randint(0, most)))
