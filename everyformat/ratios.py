"""FRACTIONS: exact quotients as pairs (top, bottom) in lowest terms, bottom at least 1."""

from math import gcd

from everyformat.errors import BadLine, Unfit
from everyformat.figures import figures_of, is_figures, number_by
from everyformat.shapes import is_number, is_tuple_of


def is_fraction(thing):
    if not is_tuple_of(thing, 2) or not is_number(thing[0]) or not is_number(thing[1]):
        return False
    return thing[1] >= 1 and gcd(thing[0], thing[1]) == 1


def fraction(top, bottom):
    if bottom == 0:
        raise Unfit()
    divisor = gcd(top, bottom)
    if bottom < 0:
        divisor = -divisor
    return (top // divisor, bottom // divisor)


def whole(number):
    return (number, 1)


def plus(x, y):
    return fraction(x[0] * y[1] + y[0] * x[1], x[1] * y[1])


def minus(x, y):
    return fraction(x[0] * y[1] - y[0] * x[1], x[1] * y[1])


def times(x, y):
    return fraction(x[0] * y[0], x[1] * y[1])


def over(x, y):
    return fraction(x[0] * y[1], x[1] * y[0])


def negated(x):
    return (-x[0], x[1])


def power_of(x, many):
    if many < 0:
        return power_of(over((1, 1), x), -many)
    return (_power(x[0], many), _power(x[1], many))


def _power(number, many):
    """number to the power many, many at least 0; by squaring, as an exponent must be a literal here."""
    product = 1
    while many:
        if many & 1:
            product = product * number
        number = number * number
        many = many >> 1
    return product


def is_less(x, y):
    return x[0] * y[1] < y[0] * x[1]


def is_at_most(x, y):
    return x[0] * y[1] <= y[0] * x[1]


def lesser(x, y):
    """The lesser one of both, as a tuple; x if they are equal."""
    least = y if is_less(y, x) else x
    return (least[0], least[1])


def greater(x, y):
    """The greater one of both, as a tuple; x if they are equal."""
    most = y if is_less(x, y) else x
    return (most[0], most[1])


def sign_of(x):
    if x[0] == 0:
        return 0
    return 1 if x[0] > 0 else -1


def size_of(x):
    return (abs(x[0]), x[1])


def floor_of(x):
    return x[0] // x[1]


def ceiling_of(x):
    return -(-x[0] // x[1])


def middle(x, y):
    return fraction(x[0] * y[1] + y[0] * x[1], 2 * x[1] * y[1])


def scale_for(fractions):
    """A number so great that, times it, two of these FRACTIONS that differ have different floors."""
    widest = max([x[1] for x in fractions], default=1)
    return widest * widest


def in_order(fractions):
    scale = scale_for(fractions)
    ordered = sorted(fractions, key=lambda x: x[0] * scale // x[1])
    found = []
    for x in ordered:
        if not found or is_less(found[-1], x):
            found.append((x[0], x[1]))
    return tuple(found)


def simplest_between(low, high):
    if not is_less(low, high):
        raise Unfit()
    if low[0] < 0 and high[0] > 0:
        return (0, 1)
    if high[0] <= 0:
        return negated(_simplest(negated(high), negated(low)))
    return _simplest(low, high)


def _simplest(low, high):
    """The simplest FRACTION strictly between two of which none is less than 0.

    While no whole number lies between them, both lie within one step from a whole number on, and the
    simplest one is this number and 1 over the simplest one between what is left, turned over; `high`
    may get the bottom 0 then: no end. The FRACTION is (a * y + b) / (c * y + d) of what y will be.
    """
    a, b, c, d = 1, 0, 0, 1
    while True:
        floor = low[0] // low[1]
        if (floor + 1) * high[1] < high[0]:
            return (a * (floor + 1) + b, c * (floor + 1) + d)
        a, b, c, d = a * floor + b, a, c * floor + d, c
        left, right = low[0] - floor * low[1], high[0] - floor * high[1]
        low, high = (high[1], right), (low[1], left)


def ratio_text(x):
    sign = "-" if x[0] < 0 else ""
    text = sign + figures_of(abs(x[0]))
    if x[1] == 1:
        return text
    return text + "/" + figures_of(x[1])


def ratio_by(text):
    minus_sign = text[:1] == "-"
    tops, slash, bottoms = text[1 if minus_sign else 0:].partition("/")
    if not is_figures(tops) or (slash and not is_figures(bottoms)):
        raise BadLine(1)
    top, bottom = number_by(tops), number_by(bottoms) if slash else 1
    if (slash and bottom == 1) or (minus_sign and top == 0) or not is_fraction((top, bottom)):
        raise BadLine(1)
    return (-top if minus_sign else top, bottom)
