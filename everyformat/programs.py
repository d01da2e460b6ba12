"""PROGRAMS: which values they are, the traces and levels of their cells, and their straight and mirrored forms."""

from everyformat.errors import Unfit
from everyformat.ratios import negated, plus
from everyformat.rows import TURNED
from everyformat.shapes import is_place, is_tuple_of, is_word_of, tupled
from everyformat.straight import (
    is_form, longer_form, minus_forms, named_in, put_in, scaled_form, single_form,
)

ROUNDINGS = ("down", "up", "near")
EXTREMES = ("least", "greatest")
CHOICES = ("least", "greatest", "pick")
MIRRORED = {"least": "greatest", "greatest": "least"}


def is_program(levels, thing):
    if not is_tuple_of(thing, 2) or not isinstance(thing[0], tuple) or not isinstance(thing[1], tuple):
        return False
    starts, steps = thing
    if not all([start is None or is_place(start, len(levels)) for start in starts]):
        return False
    return all([is_step(levels, step, len(starts) + at) for at, step in enumerate(steps)])


def is_step(levels, thing, many):
    """Whether thing is a STEP that has so many cells before it."""
    if not isinstance(thing, tuple) or not thing:
        return False
    if is_word_of(thing[0], ("round",)):
        if len(thing) != 4 or not is_place(thing[1], len(levels)):
            return False
        return is_word_of(thing[2], ROUNDINGS) and is_form(thing[3], many)
    if is_word_of(thing[0], ("exact",)):
        return len(thing) == 2 and is_form(thing[1], many)
    if is_word_of(thing[0], EXTREMES):
        return len(thing) == 3 and is_place(thing[1], many) and is_place(thing[2], many)
    if not is_word_of(thing[0], ("pick",)) or len(thing) != 4 or not is_form(thing[1], many):
        return False
    return is_place(thing[2], many) and is_place(thing[3], many)


def size_of_program(program):
    """How many cells it has."""
    return len(program[0]) + len(program[1])


def single_in(form):
    """The place of the one worth that form is, None if it is none alone."""
    named = named_in(form)
    if len(named) != 1 or form[0][0] != 0 or form[1][named[0]][0] != form[1][named[0]][1]:
        return None
    return named[0]


def traces(levels, program):
    return _traced(program)[0]


def cell_levels(levels, program):
    return _traced(program)[1]


def _traced(program):
    """The lists of the traces and of the levels of all cells."""
    starts, steps = tupled(program)
    many = len(starts) + len(steps)
    forms = [single_form(cell, many) for cell in range(len(starts))]
    ranks = list(starts)
    for step in steps:
        form, rank = trace_of(step, forms, ranks, many)
        forms.append(form)
        ranks.append(rank)
    return (forms, ranks)


def trace_of(step, forms, ranks, many):
    """The trace, of so many cells, and the level of the next cell, those of the cells before it being known."""
    alone = single_form(len(forms), many)
    if step[0] in CHOICES:
        a, b = step[-2:]
        if forms[a] == forms[b]:
            return (forms[a], _rank_of(forms[a], ranks))
        return (alone, None if None in (ranks[a], ranks[b]) else max(ranks[a], ranks[b]))
    form = put_in(step[-1], forms, many)
    rank = _rank_of(form, ranks)
    if step[0] == "exact" or (rank is not None and rank <= step[1]):
        return (form, rank)
    return (alone, step[1])


def _rank_of(form, ranks):
    """The level of the cell that form is, None if it is none alone."""
    cell = single_in(form)
    return None if cell is None else ranks[cell]


def straightened(levels, program, way):
    starts, steps = tupled(program)
    many = len(starts) + len(steps)
    if len(way) != len([step for step in steps if step[0] in CHOICES]):
        raise Unfit()
    straight, system = [], []
    for cell, step in enumerate(steps, start=len(starts)):
        if step[0] in CHOICES:
            is_first = way[len(system)]
            system.append(_way_pair(step, is_first, many))
            step = ("exact", single_form(step[-2] if is_first else step[-1], cell))
        straight.append(step)
    return ((starts, tuple(straight)), tuple(system))


def choice_form(step, many):
    """The FORM of so many cells that is at least 0 exactly if the choice takes cell a."""
    if step[0] == "pick":
        return longer_form(step[1], many)
    a, b = single_form(step[1], many), single_form(step[2], many)
    return minus_forms(b, a) if step[0] == "least" else minus_forms(a, b)


def _way_pair(step, is_first, many):
    """The pair of a SYSTEM that says which cell a choice takes."""
    form = choice_form(step, many)
    return (form, False) if is_first else (scaled_form(form, (-1, 1)), True)


def moved_step(step, moves, many):
    """A STEP with so many cells before it, each cell that it names being moved."""
    if step[0] == "round":
        return ("round", step[1], step[2], moved_form(step[3], moves, many))
    if step[0] == "exact":
        return ("exact", moved_form(step[1], moves, many))
    if step[0] == "pick":
        return ("pick", moved_form(step[1], moves, many), moves[step[2]], moves[step[3]])
    return (step[0], moves[step[1]], moves[step[2]])


def moved_form(form, moves, many):
    """A FORM as one of so many cells, each cell that it names being moved; two may come together."""
    factors = [(0, 1)] * many
    for cell, factor in enumerate(form[1]):
        if factor[0]:
            factors[moves[cell]] = plus(factors[moves[cell]], factor)
    return (form[0], tuple(factors))


def exact_steps(steps):
    """STEPS with exact ones in the place of roundings."""
    return tuple([("exact", step[3]) if step[0] == "round" else step for step in steps])


def mirrored_program(program):
    starts, steps = tupled(program)
    return (starts, tuple([_mirrored_step(step) for step in steps]))


def _mirrored_step(step):
    if step[0] == "round":
        return ("round", step[1], TURNED[step[2]], _mirrored_form(step[3]))
    if step[0] == "exact":
        return ("exact", _mirrored_form(step[1]))
    if step[0] == "pick":
        fixed, factors = step[1]
        return ("pick", (fixed, tuple([negated(factor) for factor in factors])), step[2], step[3])
    return (MIRRORED[step[0]], step[1], step[2])


def _mirrored_form(form):
    return (negated(form[0]), form[1])
