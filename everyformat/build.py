"""CHAINS built for LOGS, with a FRACTION as a member or without it."""

from everyformat.errors import CanNot
from everyformat.fitting import chain_for, step_from
from everyformat.possible import is_possible
from everyformat.shapes import check_place
from everyformat.told import can_have


def build_chain(levels, log):
    return _built(levels, log, (), ())


def _built(levels, log, members, others):
    if not is_possible(levels, log) or not can_have(levels, log, members, others):
        raise CanNot()
    return chain_for(levels, log, members, others)


def chain_with(levels, log, level, x):
    check_place(level, len(levels))
    return _built(levels, log, ((level, x),), ())


def chain_without(levels, log, level, x):
    check_place(level, len(levels))
    return _built(levels, log, (), ((level, x),))


def parted_by(levels, log, level, x):
    check_place(level, len(levels))
    wish = ((level, x),)
    return (_built_or_none(levels, log, wish, ()), _built_or_none(levels, log, (), wish))


def _built_or_none(levels, log, members, others):
    try:
        return _built(levels, log, members, others)
    except CanNot:
        return None


def least_step(levels, level):
    check_place(level, len(levels))
    return step_from(levels, level)
