"""GAPS, LEVELS, ROWS and LOGS: which values they are, and what ROWS tell by themselves."""

from everyformat.ratios import in_order, is_at_most, is_fraction, is_less, negated
from everyformat.shapes import check_place, is_number, is_tuple_of, is_word_of, tupled

SIDES = ("low", "high")
KINDS = ("down", "up", "near", "member")
TURNED = {"low": "high", "high": "low", "down": "up", "up": "down", "near": "near", "member": "member"}


def is_gap(thing):
    if thing is None:
        return True
    if not is_tuple_of(thing, 2) or not is_fraction(thing[0]) or not is_fraction(thing[1]):
        return False
    return thing[0][0] > 0 and thing[1][0] >= 0 and is_less(thing[1], (1, 1))


def is_levels(thing):
    return isinstance(thing, tuple) and len(thing) > 0 and all([_is_level_pair(pair) for pair in thing])


def _is_level_pair(thing):
    return is_tuple_of(thing, 2) and is_word_of(thing[0], SIDES) and is_gap(thing[1])


def is_row(levels, thing):
    if not is_tuple_of(thing, 4):
        return False
    level, kind, point, result = thing
    if not is_number(level) or level < 0 or level >= len(levels) or not is_word_of(kind, KINDS):
        return False
    return is_fraction(point) and is_fraction(result) and (kind != "member" or point == result)


def is_log(levels, thing):
    return isinstance(thing, tuple) and all([is_row(levels, row) for row in thing])


def goes_right(row):
    _, kind, point, result = row
    if kind == "down":
        return is_at_most(result, point)
    if kind == "up":
        return is_at_most(point, result)
    return True


def told(levels, log, level):
    check_place(level, len(levels))
    return in_order([row[3] for row in log if row[0] <= level])


def mirrored(levels, log):
    sides = tuple([(TURNED[side], tupled(gap)) for side, gap in levels])
    return (sides, tuple([_mirrored_row(row) for row in log]))


def _mirrored_row(row):
    level, kind, point, result = row
    return (level, TURNED[kind], negated(point), negated(result))
