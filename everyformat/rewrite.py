"""PROGRAMS made shorter: only what the last cell hangs on, with STEPS that say the same taken together.

While a PROGRAM is rewritten, all FORMS have as many factors as it has cells at most; they are cut in the end.
"""

from everyformat.errors import NoPlace
from everyformat.programs import EXTREMES, moved_step, single_in, size_of_program, trace_of
from everyformat.shapes import check_place, tupled
from everyformat.straight import minus_forms, named_in, put_in, single_form


def lean(program):
    return lean_to(tupled(program), size_of_program(program) - 1)


def lean_to(program, last):
    """program with only those STEPS on which this cell hangs."""
    starts, steps = program
    needed = {last: True}
    for cell in range(last, len(starts) - 1, -1):
        if cell in needed:
            for other in cells_of(steps[cell - len(starts)]):
                needed[other] = True
    moves, kept = list(range(len(starts))), []
    for cell, step in enumerate(steps, start=len(starts)):
        many = len(starts) + len(kept)
        moves.append(many)
        if cell in needed:
            kept.append(moved_step(step, moves, many))
    return (starts, tuple(kept))


def cells_of(step):
    """The cells on which a STEP hangs."""
    if step[0] in EXTREMES:
        return step[1:]
    if step[0] == "pick":
        return named_in(step[1]) + step[2:]
    return named_in(step[-1])


def with_step(program, place, step):
    if place < len(program[0]) or place >= size_of_program(program):
        raise NoPlace(place)
    starts, steps = tupled(program)
    at = place - len(starts)
    return (starts, steps[:at] + (tupled(step),) + steps[at + 1:])


class Traced:
    """Cells with their STEPS, FORMS in traces."""

    def __init__(self, starts, many):
        self.many = many
        self.forms = [single_form(cell, many) for cell in range(len(starts))]
        self.ranks = list(starts)
        self.steps = [None] * len(starts)

    def in_traces(self, step, moves):
        """A STEP, each cell that it names being moved, its FORM in traces."""
        step = moved_step(step, moves, self.many)
        if step[0] in EXTREMES:
            return (step[0], min(step[1:]), max(step[1:]))
        if step[0] == "pick":
            return ("pick", put_in(step[1], self.forms, self.many)) + step[2:]
        return step[:-1] + (put_in(step[-1], self.forms, self.many),)

    def add(self, step):
        """Makes a STEP in traces the next one, and returns its cell."""
        form, rank = trace_of(step, self.forms, self.ranks, self.many)
        self.forms.append(form)
        self.ranks.append(rank)
        self.steps.append(step)
        return len(self.steps) - 1

    def rounded(self, cell, kinds):
        """The STEP of a cell that is rounded by one of these kinds, None if it is not."""
        step = self.steps[cell]
        return step if step is not None and step[0] == "round" and step[2] in kinds else None


def plainly_at_most(levels, program, one, two):
    many = size_of_program(program)
    check_place(one, many)
    check_place(two, many)
    starts, steps = tupled(program)
    traced = Traced(starts, many)
    for step in steps:
        traced.add(traced.in_traces(step, list(range(many))))
    return _is_plain(traced, one, two)


def _is_plain(traced, one, two):
    """Whether cell one is plainly at most cell two."""
    one, two = _meant(traced, one), _meant(traced, two)
    rest = minus_forms(traced.forms[two], traced.forms[one])
    if not named_in(rest) and rest[0][0] >= 0:
        return True
    down, up = traced.rounded(one, ("down",)), traced.rounded(two, ("up",))
    lows = [traced.forms[one]] + ([down[3]] if down is not None else [])
    highs = [traced.forms[two]] + ([up[3]] if up is not None else [])
    return any([form in highs for form in lows]) or _is_plain_rounding(traced.steps[one], traced.steps[two])


def _meant(traced, cell):
    """The cell that the trace of a cell is, if it is single."""
    single = single_in(traced.forms[cell])
    return cell if single is None else single


def _is_plain_rounding(one, two):
    """Whether two STEPS round the same, the first one never to more by its kind and level."""
    if one is None or two is None or one[0] != "round" or two[0] != "round" or one[3] != two[3]:
        return False
    if one[2] == "down" and two[2] in ("down", "near"):
        return one[1] <= two[1]
    return one[2] in ("up", "near") and two[2] == "up" and one[1] >= two[1]


def rewritten(levels, program):
    starts, steps = tupled(program)
    traced, stands = Traced(starts, size_of_program(program)), list(range(len(starts)))
    for step in steps:
        stands.append(_stand_in(traced, traced.in_traces(step, stands)))
    last = stands[-1]
    if last >= len(starts):
        short = [_cut(step, cell) for cell, step in enumerate(traced.steps) if cell >= len(starts)]
        return lean_to((starts, tuple(short)), last)
    if last == len(starts) - 1:
        return (starts, ())
    return (starts, (("exact", single_form(last, len(starts))),))


def _stand_in(traced, step):
    """The cell for which that of the next STEP, in traces, stands."""
    if step[0] == "exact":
        cell = single_in(step[1])
    elif step[0] == "round":
        cell, step = _rounded_before(traced, step)
    else:
        cell = _chosen(traced, step)
    if cell is not None:
        return cell
    return traced.steps.index(step) if step in traced.steps else traced.add(step)


def _rounded_before(traced, step):
    """The cell that is as this rounding leaves it, or None; and the STEP without roundings that it makes needless."""
    cell = single_in(step[3])
    while cell is not None:
        if traced.ranks[cell] is not None and traced.ranks[cell] <= step[1]:
            return (cell, step)
        before = None if step[2] == "near" else traced.rounded(cell, (step[2],))
        if before is None:
            break
        step = step[:3] + (before[3],)
        cell = single_in(step[3])
    return (None, step)


def _chosen(traced, step):
    """The cell that a choice always takes, None if that is not plain."""
    a, b = step[-2:]
    if a == b:
        return a
    if step[0] == "pick":
        if named_in(step[1]):
            return None
        return a if step[1][0][0] >= 0 else b
    if _is_plain(traced, a, b):
        return a if step[0] == "least" else b
    if _is_plain(traced, b, a):
        return b if step[0] == "least" else a
    return None


def _cut(step, many):
    """A STEP with a FORM of so many cells."""
    if step[0] in EXTREMES:
        return step
    if step[0] == "pick":
        return ("pick", _cut_form(step[1], many)) + step[2:]
    return step[:-1] + (_cut_form(step[-1], many),)


def _cut_form(form, many):
    return (form[0], form[1][:many])
