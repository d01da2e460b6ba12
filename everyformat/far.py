"""How far LOOPS go: the sizes of the farthest runs by near, and CHAINS in which they go so far, or run off.

In the farthest run each value is as far beyond the value before the last one as roundings by near allow: with d
the way from there to what the straight step leads to, the widest level rounds it just less than 2 * d away from
there, the next one just less than 4 * d, and so on.
"""

from everyformat.errors import CanNot, Unfit
from everyformat.loops import never_runs_off, still_point
from everyformat.ratios import (
    ceiling_of, floor_of, greater, in_order, is_less, minus, negated, over, plus, simplest_between, size_of, times,
    whole,
)
from everyformat.shapes import tupled

ONE = (1, 1)


def size_row(many, rate, length):
    row = [ONE, minus(times(whole(1 << many), minus(ONE, rate)), ONE)]
    while len(row) < length:
        row.append(_next_size(many, rate, row))
    return row[:length]


def _next_size(many, rate, row):
    grown = times(times(whole(1 << many), rate), row[-1])
    return negated(plus(grown, times(whole((1 << many) - 1), row[-2])))


def _outward_row(many, rate):
    """The sizes z(0), .., z(last_outward)."""
    if tupled(rate) == ONE or not never_runs_off(many, ("near", rate, (0, 1))):
        raise Unfit()
    row = size_row(many, rate, 3)
    while is_less(row[-3], row[-1]):
        row.append(_next_size(many, rate, row))
    return row[:-1]


def last_outward(many, rate):
    return len(_outward_row(many, rate)) - 1


def greatest_size(many, rate):
    return _greatest_of(_outward_row(many, rate))


def _greatest_of(row):
    greatest = row[0]
    for size in row:
        greatest = greater(greatest, size)
    return greatest


def farthest_value(many, rate):
    row = _outward_row(many, rate)
    return row.index(_greatest_of(row))


def is_reached(levels, rate):
    row = _outward_row(len(levels), rate)
    greatest = _greatest_of(row)
    sides = [side for side, _ in levels]
    return greatest == ONE or (greatest == row[1] and sides.count(sides[0]) == len(sides))


def near_chain(many, loop, hair):
    kind, rate, _ = loop
    if kind != "near":
        raise Unfit()
    row = _outward_row(many, rate)
    farthest, bound = row.index(_greatest_of(row)), minus(_greatest_of(row), hair)
    slack = (1, 4)
    while True:
        values, marks = _spiral(many, rate, len(row) - 1, slack)
        if len(values) == len(row) and is_less(bound, size_of(values[farthest])):
            return _made(many, marks, still_point(loop))
        slack = times(slack, (1, 4))


def _spiral(many, rate, rounds, slack):
    """The values of a run from 1, the still point being 0, each as far beyond the last but one as slack lets it be;
    and the marks that are needed, pairs of a level and a FRACTION. Only as many rounds as lead outward."""
    values, marks = [ONE], [(0, ONE)]
    for at in range(rounds):
        before = values[at - 1] if at else ONE
        x = times(rate, values[at])
        if at and not is_less(size_of(before), size_of(x)):
            break
        for level in range(many - 1, -1, -1):
            x = _beyond(before, x, slack)
            marks.append((level, x))
        values.append(x)
    return (values, marks)


def _beyond(before, x, slack):
    """A FRACTION on the other side of x from before, and nearly as far from it, but nearer."""
    way = minus(x, before)
    far = plus(x, way)
    short = minus(far, times(way, slack))
    return simplest_between(short, far) if way[0] > 0 else simplest_between(far, short)


def _made(many, marks, still):
    """The CHAIN with these marks around the still point, and the value that is 1 beyond it."""
    placed = [(level, plus(still, x)) for level, x in marks]
    widest = max([ceiling_of(size_of(x)) for _, x in placed])
    parts = [(in_order([x for own, x in placed if own == level]), ()) for level in range(many)]
    return (((whole(widest + 1), ONE), tuple(parts)), plus(still, ONE))


def off_chain(many, loop, rounds):
    kind, rate, shift = tupled(loop)
    if never_runs_off(many, loop):
        raise CanNot()
    if rate == ONE:
        return (_even_chain(many, size_of(shift)), (0, 1))
    if is_less(ONE, size_of(rate)):
        # From here on the step outward is greater than 1, that of a rounding between whole numbers is less.
        room = over(ONE, minus(size_of(rate), ONE))
        return (_even_chain(many, ONE), whole(floor_of(plus(still_point(loop), room)) + 1))
    slack = (1, 4)
    while True:
        values, marks = _spiral(many, rate, rounds, slack)
        sizes = [size_of(value) for value in values]
        if len(values) > rounds and all([is_less(size, other) for size, other in zip(sizes, sizes[1:])]):
            return _made(many, marks, still_point(loop))
        slack = times(slack, (1, 4))


def _even_chain(many, step):
    """The CHAIN whose members for each level are all that are a whole number times step."""
    return ((step, step), ((((0, 1),), ()),) + (((), ()),) * (many - 1))
