"""Runs of PROGRAMS, in CHAINS and exact ones."""

from everyformat.chains import is_member, round_by
from everyformat.errors import Unfit
from everyformat.ratios import is_at_most
from everyformat.shapes import tupled
from everyformat.straight import form_at


def run_exact(program, worths):
    return _played(None, program, worths)[0]


def run_in(levels, chain, program, worths):
    return _run(levels, chain, program, worths)[0]


def log_of_run(levels, chain, program, worths):
    return rows_of(tupled(program), _run(levels, chain, program, worths)[0])


def rows_of(program, cells):
    """The LOG of a run with these cells."""
    starts, steps = program
    log = [(level, "member", x, x) for level, x in zip(starts, cells) if level is not None]
    for cell, step in enumerate(steps, start=len(starts)):
        if step[0] == "round":
            log.append((step[1], step[2], form_at(step[3], cells), cells[cell]))
    return tuple(log)


def way_of(levels, chain, program, worths):
    return _run(levels, chain, program, worths)[1]


def exact_way(program, worths):
    return _played(None, program, worths)[1]


def _run(levels, chain, program, worths):
    """The cells and the WAY of the run in chain."""
    for level, worth in zip(program[0], worths):
        if level is not None and not is_member(levels, chain, level, worth):
            raise Unfit()
    return _played((levels, chain), program, worths)


def _played(formats, program, worths):
    """The cells and the WAY of a run in formats, a pair of LEVELS and a CHAIN, or of the exact one if it is None."""
    cells, way = list(tupled(worths)), []
    for step in program[1]:
        if step[0] == "round":
            cells.append(_rounded(formats, step[1], step[2], form_at(step[3], cells)))
        elif step[0] == "exact":
            cells.append(form_at(step[1], cells))
        else:
            way.append(takes_first(step, cells))
            cells.append(cells[step[-2] if way[-1] else step[-1]])
    return (tuple(cells), tuple(way))


def _rounded(formats, level, kind, point):
    if formats is None:
        return point
    levels, chain = formats
    return round_by(levels, chain, level, kind, point)


def takes_first(step, cells):
    """Whether a choice takes its cell a."""
    if step[0] == "pick":
        return form_at(step[1], cells)[0] >= 0
    a, b = cells[step[1]], cells[step[2]]
    return is_at_most(a, b) if step[0] == "least" else is_at_most(b, a)
