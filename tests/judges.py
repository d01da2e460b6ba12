"""Judges of the tests' own: they work out by Fraction, and by counting, what the package must return."""

from fractions import Fraction


def quotient(x):
    return Fraction(x[0], x[1])


def pair(value):
    value = Fraction(value)
    return (value.numerator, value.denominator)


def pairs(*values):
    return tuple(pair(value) for value in values)


def value_at(form, worths):
    total = quotient(form[0])
    for factor, worth in zip(form[1], worths):
        total += quotient(factor) * quotient(worth)
    return total


def is_point(system, worths):
    values = [(value_at(form, worths), strict) for form, strict in system]
    return all(value > 0 or (value == 0 and not strict) for value, strict in values)


def weighed(system, weights, many):
    """The weighed sum as a list: the fixed part, then the factors."""
    total = [Fraction(0)] * (many + 1)
    for (form, _), weight in zip(system, weights):
        parts = [form[0]] + list(form[1])
        total = [x + quotient(weight) * quotient(y) for x, y in zip(total, parts)]
    return total


def closes(system, weights, many):
    if len(weights) != len(system) or any(quotient(weight) < 0 for weight in weights):
        return False
    total = weighed(system, weights, many)
    if any(total[1:]) or total[0] > 0:
        return False
    return total[0] < 0 or any(strict and quotient(w) > 0 for (_, strict), w in zip(system, weights))


def _rows_of(system):
    return [([quotient(form[0])] + [quotient(x) for x in form[1]], strict) for form, strict in system]


def _without_last(rows):
    """Fourier and Motzkin: the conditions on all unknowns but the last one."""
    kept, lows, highs = {}, [], []
    for row, strict in rows:
        if row[-1] == 0:
            _keep(kept, row[:-1], strict)
        elif row[-1] > 0:
            lows.append(([x / row[-1] for x in row], strict))
        else:
            highs.append(([x / -row[-1] for x in row], strict))
    for low, low_strict in lows:
        for high, high_strict in highs:
            _keep(kept, [x + y for x, y in zip(low[:-1], high[:-1])], low_strict or high_strict)
    return [([fixed] + list(factors), strict) for factors, (fixed, strict) in kept.items()]


def _keep(kept, row, strict):
    """Keeps, of conditions with the same factors, the narrowest one."""
    size = max([abs(x) for x in row[1:]], default=0)
    if size:
        row = [x / size for x in row]
    factors = tuple(row[1:])
    if factors in kept:
        fixed, old = kept[factors]
        if row[0] > fixed:
            return
        if row[0] == fixed:
            strict = strict or old
    kept[factors] = (row[0], strict)


def has_point(system, many):
    rows = _rows_of(system)
    for _ in range(many):
        rows = _without_last(rows)
    return all(row[0] > 0 or (row[0] == 0 and not strict) for row, strict in rows)


def values(form, system, many):
    """The STRETCH of the values of form at the points, by elimination; None if there is no point."""
    if not has_point(system, many):
        return None
    rows = [([row[0], Fraction(0)] + row[1:], strict) for row, strict in _rows_of(system)]
    parts = [quotient(form[0]), Fraction(-1)] + [quotient(x) for x in form[1]]
    rows += [(parts, False), ([-x for x in parts], False)]
    for _ in range(many):
        rows = _without_last(rows)
    low, high = (None, False), (None, False)
    for (fixed, factor), strict in rows:
        end = None if factor == 0 else -fixed / factor
        if factor > 0 and (low[0] is None or end > low[0] or (end == low[0] and strict)):
            low = (end, not strict)
        if factor < 0 and (high[0] is None or end < high[0] or (end == high[0] and strict)):
            high = (end, not strict)
    ends = [None if end is None else pair(end) for end in (low[0], high[0])]
    return (ends[0], low[1], ends[1], high[1])
