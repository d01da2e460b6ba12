"""The least GAP of a level with which a LOG is possible, and the ROWS that need it."""

from everyformat.errors import Unfit
from everyformat.possible import is_possible
from everyformat.ratios import is_less, lesser, minus, size_of, times
from everyformat.shapes import check_place, is_set_below
from everyformat.zones import join_stretches, run_with, zone

NO_NEED = ((0, 1), False)


def least_gap(levels, log, level, g):
    return _least_of(_asked_zones(levels, log, level), g)


def _asked_zones(levels, log, level):
    """For each ROW its zone, STRETCHES, () if it is of a narrower level; raises what is to be raised first."""
    check_place(level, len(levels))
    eased = [(pair[0], None) if at == level else pair for at, pair in enumerate(levels)]
    if not is_possible(eased, log):
        raise Unfit()
    return [zone(levels, row) if row[0] >= level else () for row in log]


def _least_of(zones, g):
    """The least gap of a level with these zones."""
    least = NO_NEED
    for bar in join_stretches([stretch for some in zones for stretch in some]):
        need = (_need(bar, g), not bar[1] and not bar[3])
        if need[0][0] > 0 and _is_more(need, least):
            least = need
    return least


def _need(bar, g):
    return minus(minus(bar[2], bar[0]), times(g, lesser(size_of(bar[0]), size_of(bar[2]))))


def _is_more(gap, other):
    """Whether a least gap lets less than another one."""
    if is_less(gap[0], other[0]) or is_less(other[0], gap[0]):
        return is_less(other[0], gap[0])
    return other[1] and not gap[1]


def gap_lot(levels, log, level, g):
    zones = _asked_zones(levels, log, level)
    wanted = _least_of(zones, g)
    lot = _lot_of_bar(zones, wanted, g)
    for number in list(lot):
        others = [other for other in lot if other != number]
        if _least_of([zones[other] for other in others], g) == wanted:
            lot = others
    return tuple(lot)


def _lot_of_bar(zones, wanted, g):
    """Numbers of ROWS that make up a BAR that alone needs as much as is wanted."""
    for bar in join_stretches([stretch for some in zones for stretch in some]):
        if _least_of([(bar,)], g) == wanted and wanted != NO_NEED:
            return [number for number, some in enumerate(zones) if some and run_with((bar,), some[0]) == bar]
    return []


def is_gap_lot(levels, log, level, g, thing):
    zones = _asked_zones(levels, log, level)
    if not is_set_below(thing, len(log)):
        return False
    wanted = _least_of(zones, g)
    if _least_of([zones[number] for number in thing], g) != wanted:
        return False
    lots = [[zones[other] for other in thing if other != number] for number in thing]
    return not any([_least_of(lot, g) == wanted for lot in lots])
