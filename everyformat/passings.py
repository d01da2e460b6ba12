"""WORDS of roundings: what they pass on, which are the same, and which are never above which."""

from everyformat.programs import ROUNDINGS
from everyformat.ratios import lesser, times
from everyformat.shapes import check_place, is_place, is_tuple_of, is_word_of, tupled
from everyformat.views import above, chain_of_view, led, rows_of_word, turned_word_of


def is_word(levels, thing):
    return isinstance(thing, tuple) and all([_is_rounding(levels, item) for item in thing])


def _is_rounding(levels, thing):
    return is_tuple_of(thing, 2) and is_place(thing[0], len(levels)) and is_word_of(thing[1], ROUNDINGS)


def reduced(word):
    kept = []
    for level, kind in word:
        if not kept or level < kept[-1][0]:
            if kept and kept[-1][1] == kind and kind != "near":
                kept.pop()
            kept.append((level, kind))
    return tuple(kept)


def is_same(word, other):
    return reduced(word) == reduced(other)


def all_reduced(many):
    words, longest = [()], [()]
    while longest:
        longest = [word + pair for word in longest for pair in _next_pairs(word, many)]
        words.extend(longest)
    return sorted(words)


def _next_pairs(word, many):
    """What a REDUCED WORD can go on with, as WORDS of one pair."""
    if not word:
        return [((level, kind),) for level in range(many) for kind in ROUNDINGS]
    level, last = word[-1]
    return [((narrow, kind),) for narrow in range(level) for kind in ROUNDINGS if kind == "near" or kind != last]


def turned_word(word):
    return turned_word_of(word)


def _check_levels(levels, words):
    for word in words:
        for level, _ in word:
            check_place(level, len(levels))


def passed_on(levels, chain, word, point):
    _check_levels(levels, (word,))
    return led(levels, chain, word, tupled(point))


def passing_log(levels, chain, word, point):
    _check_levels(levels, (word,))
    return rows_of_word(levels, chain, word, tupled(point))


def never_above(levels, word, other):
    return _view_above(levels, word, other) is None


def _view_above(levels, word, other):
    _check_levels(levels, (word, other))
    return above(tupled(levels), reduced(word), reduced(other))


def above_chain(levels, word, other):
    return _shown(levels, _view_above(levels, word, other))


def parting_chain(levels, word, other):
    view = _view_above(levels, word, other)
    return _shown(levels, _view_above(levels, other, word) if view is None else view)


def _shown(levels, view):
    """A view as a pair (CHAIN, point), its members so near to one another that all GAPS are kept."""
    if view is None:
        return None
    width = (1, 1)
    for _, gap in levels:
        if gap is not None:
            width = lesser(width, gap[0])
    return (chain_of_view(view, len(levels), width), times(view[1], width))
