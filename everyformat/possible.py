"""Which LOGS are possible, and which of their ROWS do not go together.

A LOG is sifted once into its *clues*: the numbers of the ROWS that do not go right, the pairs of which
one ROW shuts out the result of the other, and the zone of each ROW; what holds of a lot follows from them.
"""

from everyformat.errors import CanNot, Unfit
from everyformat.rows import goes_right
from everyformat.shapes import check_place, is_place, is_set_below, is_word_of, tupled
from everyformat.zones import bars, in_stretches, is_stretch, join_stretches, lets, run_with, zone

FAULTS = ("way", "inside", "long")


def fault(levels, log):
    ways, insides, _ = _clues(levels, log)
    if ways:
        return ("way", ways[0])
    if insides:
        return ("inside",) + insides[0]
    for level, pair in enumerate(levels):
        if pair[1] is not None:
            for bar in bars(levels, log, level):
                if not lets(pair[1], bar):
                    return ("long", level, bar)
    return None


def _clues(levels, log):
    zones = [zone(levels, row) for row in log]
    ways = [number for number, row in enumerate(log) if not goes_right(row)]
    insides = []
    for number, row in enumerate(log):
        for other, wide in enumerate(log):
            if wide[0] >= row[0] and in_stretches(zones[other], row[3]):
                insides.append((number, other))
    return (ways, insides, zones)


def _bars_of(log, zones, lot, level):
    """The BARS of a level in the LOG of a lot."""
    return join_stretches([stretch for number in lot if log[number][0] >= level for stretch in zones[number]])


def _goes_together(levels, log, clues, lot):
    """Whether the LOG of a lot is possible."""
    ways, insides, zones = clues
    if any([number in lot for number in ways]):
        return False
    if any([number in lot and other in lot for number, other in insides]):
        return False
    for level, pair in enumerate(levels):
        if pair[1] is not None:
            if not all([lets(pair[1], bar) for bar in _bars_of(log, zones, lot, level)]):
                return False
    return True


def is_fault(levels, log, thing):
    if not isinstance(thing, tuple) or not thing or not is_word_of(thing[0], FAULTS):
        return False
    if thing[0] == "way":
        return len(thing) == 2 and is_place(thing[1], len(log)) and not goes_right(log[thing[1]])
    if len(thing) != 3:
        return False
    if thing[0] == "inside":
        return is_place(thing[1], len(log)) and is_place(thing[2], len(log)) and _shuts(levels, log, thing)
    return is_place(thing[1], len(levels)) and is_stretch(thing[2]) and _is_long(levels, log, thing)


def _shuts(levels, log, thing):
    row, wide = log[thing[1]], log[thing[2]]
    return wide[0] >= row[0] and in_stretches(zone(levels, wide), row[3])


def _is_long(levels, log, thing):
    return thing[2] in bars(levels, log, thing[1]) and not lets(levels[thing[1]][1], thing[2])


def is_possible(levels, log):
    return _goes_together(levels, log, _clues(levels, log), list(range(len(log))))


def is_possible_lot(levels, log, lot):
    if any([number < 0 or number >= len(log) for number in lot]):
        raise Unfit()
    return is_possible(levels, [log[number] for number in lot])


def possible_rows(levels, log):
    clues = _clues(levels, log)
    low, high = 0, len(log)
    while low < high:
        many = (low + high + 1) // 2
        if _goes_together(levels, log, clues, list(range(many))):
            low = many
        else:
            high = many - 1
    return low


def least_lot(levels, log):
    found = fault(levels, log)
    if found is None:
        raise CanNot()
    clues = _clues(levels, log)
    lot = _lot_of_fault(log, clues[2], found)
    for number in list(lot):
        others = [other for other in lot if other != number]
        if not _goes_together(levels, log, clues, others):
            lot = others
    return tuple(lot)


def _lot_of_fault(log, zones, found):
    """Numbers of ROWS, ascending, that are enough for the fault that was found."""
    if found[0] == "way":
        return [found[1]]
    if found[0] == "inside":
        return sorted([found[1], found[2]])
    _, level, bar = found
    wide = [number for number, row in enumerate(log) if row[0] >= level and zones[number]]
    return [number for number in wide if run_with((bar,), zones[number][0]) == bar]


def is_least_lot(levels, log, thing):
    if not is_set_below(thing, len(log)):
        return False
    clues = _clues(levels, log)
    if _goes_together(levels, log, clues, thing):
        return False
    lots = [[other for other in thing if other != number] for number in thing]
    return all([_goes_together(levels, log, clues, lot) for lot in lots])


def key_rows(levels, log):
    clues = _clues(levels, log)
    numbers = list(range(len(log)))
    if _goes_together(levels, log, clues, numbers):
        raise CanNot()
    lots = [[other for other in numbers if other != number] for number in numbers]
    return tuple([number for number in numbers if _goes_together(levels, log, clues, lots[number])])


def next_possible(levels, log, row):
    check_place(row[0], len(levels))
    return is_possible(levels, tupled(log) + (tupled(row),))


def lot_bound(levels):
    gapped = [level for level, pair in enumerate(levels) if pair[1] is not None]
    if not gapped:
        return 2
    return 2 * (len(levels) - gapped[0])


def sharp_log(many):
    """Zones that lead, level by level, from 0 to the middle, and from the other end to it.

    Each one begins where that of the next narrower level ends, so its result lies in a zone only of a
    narrower level; what is left without one of them is at least 1 shorter.
    """
    length = 2 * many
    levels = (("low", ((2 * length - 1, 2), (0, 1))),) + (("low", None),) * (many - 1)
    downs = [(level, "down", (level + 1, 1), (level, 1)) for level in range(many)]
    ups = [(level, "up", (length - level - 1, 1), (length - level, 1)) for level in range(many)]
    return (levels, tuple(downs + ups))
