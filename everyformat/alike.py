"""PROGRAMS that compute the same in all formats in which a LOG holds."""

from everyformat.cases import check_bearable
from everyformat.decide import counter
from everyformat.errors import Unfit
from everyformat.programs import moved_step, size_of_program
from everyformat.rewrite import rewritten, with_step
from everyformat.search import Field, some_letters
from everyformat.shapes import check_place, tupled
from everyformat.straight import minus_forms, single_form


def beside(program, other):
    starts, steps = tupled(program)
    others, more = tupled(other)
    if starts != others:
        raise Unfit()
    first = len(starts) + len(steps)
    moves = list(range(len(starts))) + list(range(first, first + len(more)))
    return (starts, steps + tuple([moved_step(step, moves, first + at) for at, step in enumerate(more)]))


def last_beside(program, other):
    """The place of the last cell of other in beside(program, other)."""
    return size_of_program(program) + len(other[1]) - 1 if other[1] else len(other[0]) - 1


def apart_form(program, other):
    """The last of program less that of other, a FORM of the cells of beside(program, other)."""
    many = size_of_program(program) + len(other[1])
    one, two = size_of_program(program) - 1, last_beside(program, other)
    return minus_forms(single_form(one, many), single_form(two, many))


def is_never_above(levels, log, program, facts, one, two):
    many = size_of_program(program)
    check_place(one, many)
    check_place(two, many)
    field = Field(levels, log, program, facts)
    return some_letters(field, ((minus_forms(field.forms[one], field.forms[two]), True),)) is None


def is_alike(levels, log, program, other, facts):
    return parted(levels, log, program, other, facts) is None


def parted(levels, log, program, other, facts):
    difference = _short_difference(levels, program, other)
    many = size_of_program(difference)
    return counter(levels, log, difference, facts, ("equal", single_form(many - 1, many)))


def _short_difference(levels, program, other):
    """The difference of two PROGRAMS, rewritten."""
    starts, steps = beside(program, other)
    return rewritten(levels, (starts, steps + (("exact", apart_form(program, other)),)))


def is_let(levels, log, program, facts, place, step):
    return is_alike(levels, log, with_step(program, place, step), program, facts)


def needless(levels, log, program, facts):
    tried = []
    for cell, step in enumerate(program[1], start=len(program[0])):
        if step[0] == "round":
            tried.append((cell, with_step(program, cell, ("exact", step[3]))))
    for _, other in tried:
        check_bearable(levels, _short_difference(levels, other, program))
    return tuple([cell for cell, other in tried if is_alike(levels, log, other, program, facts)])
