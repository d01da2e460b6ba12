"""PROGRAMS and LOGS as CONDITIONS on the letters, the cells that are not those of exact STEPS.

A zone is a tuple: whether it is a left one, its level, the FORMS r and f of its result's end and of the
other one, whether f is in, its source and its excuse. A told thing is a triple: its level, its FORM, its source.
The source is a cell, or -1 - n for ROW n of the log; the excuse is () or the case in which there is no such zone.
"""

from everyformat.errors import TooMuch
from everyformat.programs import CHOICES, choice_form
from everyformat.ratios import is_less
from everyformat.rows import goes_right
from everyformat.shapes import tupled
from everyformat.straight import constant_form, minus_forms, plus_forms, put_in, scaled_form, single_form

ROUNDS = 3
LETTERS = 8


def check_bearable(levels, program):
    """Raises TooMuch if this is more than section 15 decides."""
    narrow = [pair for pair in levels[:-1] if pair[1] is not None]
    rounds = [step for step in program[1] if step[0] == "round"]
    if narrow or len(rounds) > ROUNDS or many_letters(program) > LETTERS:
        raise TooMuch()


def many_letters(program):
    return len(program[0]) + len([step for step in program[1] if step[0] != "exact"])


def letter_forms(program):
    starts, steps = tupled(program)
    many = many_letters(program)
    forms = [single_form(letter, many) for letter in range(len(starts))]
    letter = len(starts)
    for step in steps:
        if step[0] == "exact":
            forms.append(put_in(step[1], forms, many))
        else:
            forms.append(single_form(letter, many))
            letter += 1
    return forms


def turned(form):
    """Minus a FORM."""
    return scaled_form(form, (-1, 1))


def denials(program, claim):
    word, form = claim
    form = put_in(form, letter_forms(program), many_letters(program))
    above, below = ((form, True),), ((turned(form), True),)
    if word == "at least":
        return [below]
    if word == "above":
        return [((turned(form), False),)]
    return [below, above]


def conditions(levels, log, program):
    check_bearable(levels, program)
    return [cases for _, cases in told_conditions(levels, log, program)]


def told_conditions(levels, log, program):
    """The CONDITIONS, in order, as pairs: the numbers of the ROWS of log that it is of, and its cases."""
    levels, log, program = tupled(levels), tupled(log), tupled(program)
    forms, many = letter_forms(program), many_letters(program)
    zones = _row_zones(levels, log, many) + _cell_zones(levels, program, forms, many)
    found = [((), cases) for cases in _step_conditions(program, forms, many)]
    found.extend(_shut_conditions(zones, _told_things(log, program, forms, many)))
    if levels[-1][1] is not None:
        wide = [one for one in zones if one[1] == len(levels) - 1]
        found.extend(_length_conditions(levels[-1][1], wide))
    return found


def _step_conditions(program, forms, many):
    found = []
    for cell, step in enumerate(program[1], start=len(program[0])):
        if step[0] == "round" and step[2] != "near":
            point = put_in(step[3], forms, many)
            room = minus_forms(point, forms[cell]) if step[2] == "down" else minus_forms(forms[cell], point)
            found.append((((room, False),),))
        elif step[0] in CHOICES:
            found.append(_choice_cases(step, forms[cell], forms, many))
    return found


def _choice_cases(step, cell, forms, many):
    first = put_in(choice_form(step, len(forms)), forms, many)
    second = (turned(first), step[0] == "pick")
    taken = [minus_forms(cell, forms[one]) for one in step[-2:]]
    return (((first, False),) + _is_zero(taken[0]), (second,) + _is_zero(taken[1]))


def _is_zero(form):
    return ((form, False), (turned(form), False))


def _row_zones(levels, log, many):
    found = []
    for number, (level, kind, point, result) in enumerate(log):
        if kind != "member" and point != result and goes_right(log[number]):
            end, middle = constant_form(result, many), constant_form(point, many)
            is_left = is_less(result, point)
            found.append(_zone(levels, (level, kind), is_left, (end, middle), -1 - number))
    return found


def _cell_zones(levels, program, forms, many):
    found = []
    for cell, step in enumerate(program[1], start=len(program[0])):
        if step[0] == "round":
            ends = (forms[cell], put_in(step[3], forms, many))
            for is_left in (True, False):
                if step[2] == "near" or is_left == (step[2] == "down"):
                    found.append(_zone(levels, step[1:3], is_left, ends, cell))
    return found


def _zone(levels, rank, is_left, ends, source):
    level, kind = rank
    result, point = ends
    if kind != "near":
        return (is_left, level, result, point, True, source, ())
    other = minus_forms(plus_forms(point, point), result)
    is_in = is_left == (levels[level][0] == "high")
    room = minus_forms(result, point) if is_left else minus_forms(point, result)
    return (is_left, level, result, other, is_in, source, (((room, False),),) if source >= 0 else ())


def _told_things(log, program, forms, many):
    things = [(row[0], constant_form(row[3], many), -1 - number) for number, row in enumerate(log)]
    things.extend([(level, forms[cell], cell) for cell, level in enumerate(program[0]) if level is not None])
    for cell, step in enumerate(program[1], start=len(program[0])):
        if step[0] == "round":
            things.append((step[1], forms[cell], cell))
    return things


def _are_of_one(source, other):
    """Whether both are of one cell, or both of the log."""
    return source == other or (source < 0 and other < 0)


def _rows_of(sources):
    return tuple([-1 - source for source in sources if source < 0])


def _shut_conditions(zones, things):
    found = []
    for is_left, level, end, other, is_in, source, excuse in zones:
        for narrow, x, teller in things:
            if narrow <= level and not _are_of_one(source, teller):
                before, behind = minus_forms(end, x), minus_forms(x, other)
                if not is_left:
                    before, behind = turned(before), turned(behind)
                cases = (((before, False),), ((behind, is_in),))
                found.append((_rows_of((source, teller)), excuse + cases))
    return found


def _length_conditions(gap, zones):
    found = []
    for is_left, _, end, other, is_in, source, excuse in zones:
        if source >= 0:
            low, high = (end, other) if is_left else (other, end)
            found.append(((), excuse + _let_cases(gap, low, high, is_in)))
    for one in zones:
        for two in zones:
            if one[0] and not two[0] and not _are_of_one(one[5], two[5]):
                apart = ((minus_forms(two[3], one[3]), one[4] or two[4]),)
                cases = one[6] + two[6] + (apart,) + _let_cases(gap, one[2], two[2], False)
                found.append((_rows_of((one[5], two[5])), cases))
    return found


def _let_cases(gap, low, high, strict):
    """let(low, high): the cases in which the GAP lets a BAR between these ends; strictly if strict."""
    width, rate = gap
    short = plus_forms(constant_form(width, len(low[1])), minus_forms(low, high))
    if rate[0] == 0:
        return (((short, strict),),)
    by_low, by_high = scaled_form(low, rate), scaled_form(high, rate)
    below, above = (minus_forms(short, by_low), strict), (plus_forms(short, by_high), strict)
    return (
        ((low, False), (plus_forms(short, by_low), strict)),
        ((turned(high), False), (minus_forms(short, by_high), strict)),
        ((turned(low), False), (high, False), below, above),
    )
