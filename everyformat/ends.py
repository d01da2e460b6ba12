"""Two ends between which the exact run stays, and choices that go as in the exact run."""

from everyformat.alike import beside
from everyformat.bounds import most_of
from everyformat.cases import check_bearable, turned
from everyformat.drift import exact_twin
from everyformat.errors import CanNot, Unfit
from everyformat.programs import CHOICES, EXTREMES, choice_form, exact_steps, moved_form, size_of_program
from everyformat.search import Field, run_with_pairs, some_letters
from everyformat.shapes import check_place, tupled
from everyformat.straight import constant_form, minus_forms


def exact_copy(program):
    starts, steps = tupled(program)
    return (starts, exact_steps(steps))


def two_ends(levels, program):
    starts, steps = tupled(program)
    if not steps:
        raise CanNot()
    lows, highs, made = list(range(len(starts))), list(range(len(starts))), []
    for step in steps:
        many = len(starts) + len(made)
        more = _end_steps(step, lows, highs, many)
        made.extend(more)
        lows.append(many + len(more) - 2)
        highs.append(many + len(more) - 1)
    return (starts, tuple(made))


def _end_steps(step, lows, highs, many):
    """The STEPS for the ends of a STEP, with so many cells before them."""
    if step[0] in EXTREMES:
        return [(step[0], ends[step[1]], ends[step[2]]) for ends in (lows, highs)]
    if step[0] == "pick":
        return _pick_steps(step, lows, highs, many)
    low, high = _end_form(step[-1], lows, highs, many), _end_form(step[-1], highs, lows, many + 1)
    if step[0] == "exact":
        return [("exact", low), ("exact", high)]
    return [("round", step[1], "down", low), ("round", step[1], "up", high)]


def _pick_steps(step, lows, highs, many):
    """The STEPS for the ends of a pick: first both of what it can take, then what is sure by both ends of its FORM."""
    _, form, a, b = step
    return [
        ("least", lows[a], lows[b]),
        ("greatest", highs[a], highs[b]),
        ("pick", _end_form(form, highs, lows, many + 2), many, lows[b]),
        ("pick", _end_form(form, highs, lows, many + 3), many + 1, highs[b]),
        ("pick", _end_form(form, lows, highs, many + 4), lows[a], many + 2),
        ("pick", _end_form(form, lows, highs, many + 5), highs[a], many + 3),
    ]


def _end_form(form, risen, fallen, many):
    """A FORM of so many cells, each cell being replaced by the one end if its factor is greater than 0, by the other
    one if it is less."""
    ends = [one if factor[0] > 0 else other for factor, one, other in zip(form[1], risen, fallen)]
    return moved_form(form, ends, many)


def is_held(levels, log, program, other, facts):
    return unheld(levels, log, program, other, facts) is None


def unheld(levels, log, program, other, facts):
    if tupled(program[0]) != tupled(other[0]):
        raise Unfit()
    if size_of_program(other) < 2 or size_of_program(program) < 1:
        raise CanNot()
    field = Field(levels, log, beside(exact_copy(program), other), facts)
    exact = field.forms[size_of_program(program) - 1]
    low, high = [field.forms[cell] for cell in _last_two(program, other)]
    for below in (minus_forms(low, exact), minus_forms(exact, high)):
        run = run_with_pairs(field, ((below, True),))
        if run is not None:
            return run
    return None


def _last_two(program, other):
    """The places of the last but one and the last cell of other beside program."""
    starts, many = len(other[0]), size_of_program(other)
    later = size_of_program(program) - starts
    return [cell if cell < starts else cell + later for cell in (many - 2, many - 1)]


def ends_width(levels, log, program, facts):
    field = Field(levels, log, two_ends(levels, program), facts)
    width = most_of(field, (), minus_forms(field.forms[-1], field.forms[-2]))
    if width is None:
        raise CanNot()
    return None if width[0] is None else width


def choice_status(levels, log, program, facts, number):
    check_place(number, _many_choices(program))
    field, forms = _twin_choices(levels, log, program, facts)
    right = any([some_letters(field, pairs) is not None for pairs in _right_pairs(forms[number])])
    wrong = any([some_letters(field, pairs) is not None for pairs in _wrong_pairs(forms[number])])
    if right:
        return "some" if wrong else "sure"
    return "never" if wrong else "none"


def sure_choices(levels, log, program, facts):
    if _many_choices(program) == 0:
        return ()
    field, forms = _twin_choices(levels, log, program, facts)
    return tuple([number for number, pair in enumerate(forms) if _wrong_run(field, pair) is None])


def wrong_choice(levels, log, program, facts, number):
    check_place(number, _many_choices(program))
    field, forms = _twin_choices(levels, log, program, facts)
    return _wrong_run(field, forms[number])


def _many_choices(program):
    return len([step for step in program[1] if step[0] in CHOICES])


def _twin_choices(levels, log, program, facts):
    """The runs of the exact twin and, for each choice, its FORM of the letters and that of its exact one."""
    twin = exact_twin(program)
    many = size_of_program(twin)
    pick = ("pick", constant_form((0, 1), many), 0, 0)
    check_bearable(levels, (twin[0], twin[1] + (pick, pick)))
    field = Field(levels, log, twin, facts)
    forms = [field.letter_form(choice_form(step, many)) for step in twin[1] if step[0] in CHOICES]
    half = len(forms) // 2
    return (field, list(zip(forms[:half], forms[half:])))


def _right_pairs(pair):
    """The two ways in which a choice goes as in the exact run, pairs of the letters."""
    form, exact = pair
    return [((form, False), (exact, False)), ((turned(form), True), (turned(exact), True))]


def _wrong_pairs(pair):
    form, exact = pair
    return [((form, False), (turned(exact), True)), ((turned(form), True), (exact, False))]


def _wrong_run(field, pair):
    for pairs in _wrong_pairs(pair):
        run = run_with_pairs(field, pairs)
        if run is not None:
            return run
    return None
