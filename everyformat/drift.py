"""Drift: how far the cells of a PROGRAM can be from those of the exact run.

The exact twin of a PROGRAM has both, so the drift of a cell is the value of a FORM of its cells.
"""

from everyformat.bounds import most_of, stretch_of
from everyformat.cases import turned
from everyformat.errors import CanNot
from everyformat.programs import exact_steps, moved_step, size_of_program
from everyformat.ratios import greater, is_fraction, is_less, negated
from everyformat.search import Field, run_with_pairs, some_letters
from everyformat.shapes import check_place, is_truth, is_tuple_of, tupled
from everyformat.straight import constant_form, minus_forms, plus_forms, scaled_form


def exact_twin(program):
    starts, steps = tupled(program)
    moves = list(range(len(starts))) + list(range(len(starts) + len(steps), len(starts) + 2 * len(steps)))
    twins = [moved_step(step, moves, moves[len(starts) + at]) for at, step in enumerate(exact_steps(steps))]
    return (starts, steps + tuple(twins))


def worth_stretch(levels, log, program, facts, form):
    field = Field(levels, log, program, facts)
    return _stretch(field, field.letter_form(form))


def _stretch(field, form):
    found = stretch_of(field, form)
    if found is None:
        raise CanNot()
    return found


def drift_stretch(levels, log, program, facts, cell):
    field, drift, _ = _asked(levels, log, program, facts, cell)
    return _stretch(field, drift)


def _asked(levels, log, program, facts, cell):
    """The runs of the exact twin, and the FORMS of the letters for the drift of a cell and for its exact cell."""
    many = size_of_program(program)
    check_place(cell, many)
    field = Field(levels, log, exact_twin(program), facts)
    exact = field.forms[cell] if cell < len(program[0]) else field.forms[cell + len(program[1])]
    return (field, minus_forms(field.forms[cell], exact), exact)


def greatest_drift(levels, log, program, facts, cell):
    field, drift, _ = _asked(levels, log, program, facts, cell)
    return _greatest_size(_stretch(field, drift))


def _greatest_size(stretch):
    """The greatest size in a STRETCH around or beside 0, and whether it is reached; None if it has no end."""
    low, low_in, high, high_in = stretch
    if low is None or high is None:
        return None
    if is_less(negated(low), high):
        return (high, high_in)
    return (negated(low), low_in or (high_in and negated(low) == high))


def is_drift(levels, log, program, facts, cell, thing):
    field, drift, _ = _asked(levels, log, program, facts, cell)
    found = stretch_of(field, drift)
    if found is None or not is_tuple_of(thing, 2) or not is_fraction(thing[0]) or not is_truth(thing[1]):
        return False
    return _greatest_size(found) == thing


def drift_run(levels, log, program, facts, cell, size):
    field, drift, _ = _asked(levels, log, program, facts, cell)
    for form in (drift, turned(drift)):
        run = run_with_pairs(field, ((minus_forms(form, constant_form(size, field.many)), True),))
        if run is not None:
            return run
    return None


def drift_status(levels, log, program, facts, cell, rate, shift):
    field, drift, exact = _asked(levels, log, program, facts, cell)
    part, room = scaled_form(exact, rate), constant_form(shift, field.many)
    above, below = plus_forms(room, part), minus_forms(room, part)
    # rate times the size of the exact cell is the greater one of part and minus part.
    fails = [((minus_forms(form, above), True), (minus_forms(form, below), True)) for form in (drift, turned(drift))]
    holds = []
    for sign, most in ((exact, above), (turned(exact), below)):
        holds.append(((sign, False), (minus_forms(most, drift), False), (plus_forms(most, drift), False)))
    is_kept = any([some_letters(field, pairs) is not None for pairs in holds])
    is_broken = any([some_letters(field, pairs) is not None for pairs in fails])
    if is_kept:
        return "some" if is_broken else "sure"
    return "never" if is_broken else "none"


def least_shift(levels, log, program, facts, cell, rate):
    field, drift, exact = _asked(levels, log, program, facts, cell)
    part, least = scaled_form(exact, rate), None
    for sign, size in ((exact, part), (turned(exact), turned(part))):
        for form in (drift, turned(drift)):
            most = most_of(field, ((sign, False),), minus_forms(form, size))
            if most is not None and most[0] is None:
                return None
            if most is not None:
                least = greater((0, 1) if least is None else least, most[0])
    if least is None:
        raise CanNot()
    return least
