"""PROGRAMS at random, and their runs played step by step among members that are listed, by Fraction."""

from fractions import Fraction

from tests import grids
from tests.judges import pair, quotient, value_at

CHOICES = ("least", "greatest", "pick")


def next_cell(step, cells, rounding):
    """The value of the next cell, and whether a choice takes cell a (None for other STEPS)."""
    if step[0] == "round":
        return rounding(step[1], step[2], form_value(step[3], cells)), None
    if step[0] == "exact":
        return form_value(step[1], cells), None
    a, b = cells[step[-2]], cells[step[-1]]
    first = form_value(step[1], cells) >= 0 if step[0] == "pick" else a <= b if step[0] == "least" else a >= b
    return (a if first else b), first


def form_value(form, cells):
    return value_at(form, [pair(x) for x in cells])


def played(program, worths, rounding):
    """The cells, as Fractions, and the WAY of a run, rounding(level, kind, point) being given."""
    cells, way = [Fraction(x) for x in worths], []
    for step in program[1]:
        value, first = next_cell(step, cells, rounding)
        cells.append(value)
        if first is not None:
            way.append(first)
    return cells, tuple(way)


def played_exactly(program, worths):
    return played(program, worths, lambda level, kind, point: point)


def played_among(levels, members, program, worths):
    """A run among members, an ascending list for each level."""
    return played(program, worths, lambda level, kind, point: grids.rounded(levels, members[level], level, kind, point))


def some_form(rng, many, bottoms=(1, 1, 2, 3)):
    factors = tuple(pair(Fraction(rng.choice([0, 0, 1, 1, -1, 2, rng.randint(-3, 3)]), rng.choice(bottoms))) for _ in range(many))
    return (pair(Fraction(rng.choice([0, 0, rng.randint(-4, 4)]), rng.choice(bottoms))), factors)


def some_step(rng, levels, many, words):
    word = rng.choice(words)
    if word == "copy":
        factors = tuple((1, 1) if at == rng.randrange(many) else (0, 1) for at in range(many))
        return rng.choice([("exact", ((0, 1), factors)), ("round", rng.randrange(levels), rng.choice(["down", "up", "near"]),
                                                         ((0, 1), factors))])
    if word == "round":
        return ("round", rng.randrange(levels), rng.choice(["down", "up", "near"]), some_form(rng, many))
    if word == "exact" or many == 0:
        return ("exact", some_form(rng, many))
    a, b = rng.randrange(many), rng.randrange(many)
    return (word, some_form(rng, many), a, b) if word == "pick" else (word, a, b)


def some_program(rng, levels, most_starts, most_steps, words=("round", "exact", "copy") + CHOICES):
    """A PROGRAM of so many levels."""
    starts = tuple(rng.choice([None] + list(range(levels))) for _ in range(rng.randint(0, most_starts)))
    steps = []
    for _ in range(rng.randint(0 if starts else 1, most_steps)):
        many = len(starts) + len(steps)
        steps.append(some_step(rng, levels, many, words if many else ("round", "exact")))
    return (starts, tuple(steps))


def some_members(rng, levels, size=8):
    """For each level a list of members, some of them far out on both sides; narrower ones first."""
    grid = grids.fine_grid(size, 4)
    beyond = [Fraction(way * 10 ** (6 << at)) for at in range(8) for way in (-1, 1)]
    members = [sorted(rng.sample(grid, rng.randint(3, 20)) + beyond)]
    for _ in range(levels - 1):
        members.append(sorted(set(members[-1] + rng.sample(grid, rng.randint(0, 12)))))
    return members


def worths_for(rng, program, members):
    """WORTHS that are members for their starts."""
    found = []
    for start in program[0]:
        if start is None:
            found.append(Fraction(rng.randint(-16, 16), rng.choice([1, 2, 3])))
        else:
            found.append(rng.choice([x for x in members[start] if abs(x) < 100]))
    return found


def quotients(values):
    return [quotient(x) for x in values]
