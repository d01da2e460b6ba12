"""LOOPS: a straight step and roundings for all levels, from the widest to the narrowest, again and again."""

from everyformat.errors import Unfit
from everyformat.programs import ROUNDINGS
from everyformat.ratios import is_fraction, is_less, minus, over, plus, times, whole
from everyformat.shapes import is_tuple_of, is_word_of, tupled
from everyformat.views import rows_of_word


def is_loop(thing):
    if not is_tuple_of(thing, 3) or not is_word_of(thing[0], ROUNDINGS):
        return False
    return is_fraction(thing[1]) and is_fraction(thing[2])


def still_point(loop):
    _, rate, shift = loop
    if tupled(rate) == (1, 1):
        raise Unfit()
    return over(shift, minus((1, 1), rate))


def _rows_of_round(levels, chain, loop, y):
    kind, rate, shift = loop
    word = [(level, kind) for level in reversed(range(len(levels)))]
    return rows_of_word(levels, chain, word, plus(times(rate, y), shift))


def one_round(levels, chain, loop, y):
    return _rows_of_round(levels, chain, loop, y)[-1][3]


def loop_run(levels, chain, loop, start, rounds):
    values = [tupled(start)]
    for _ in range(rounds):
        values.append(one_round(levels, chain, loop, values[-1]))
    return values


def loop_log(levels, chain, loop, start, rounds):
    rows, y = [], start
    for _ in range(rounds):
        rows.extend(list(_rows_of_round(levels, chain, loop, y)))
        y = rows[-1][3]
    return tuple(rows)


def ring_of(levels, chain, loop, start, rounds):
    seen = {}
    for at, value in enumerate(loop_run(levels, chain, loop, start, rounds)):
        if value in seen:
            return (seen[value], at - seen[value])
        seen[value] = at
    return None


def never_runs_off(many, loop):
    kind, rate, shift = loop
    if rate[0] >= 0:
        return is_less(rate, (1, 1)) or (tupled(rate) == (1, 1) and shift[0] == 0)
    if kind != "near":
        return not is_less(rate, (-1, 1))
    grown = times(whole(1 << (2 * (many - 1))), times(rate, rate))
    return is_less(grown, whole((1 << many) - 1))
