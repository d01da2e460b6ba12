"""How one REDUCED WORD can pass a FRACTION on to more than another one does.

All happens in a *gap* from 0 to 1, which all levels of the WORDS have as members. A *view* of it is a pair
(marks, point): marks are pairs (level, x), x strictly between 0 and 1 being a member for this level and all wider
ones; the point is passed on. The functions return a view in which what they say is so, None if it is so in none.
A narrower level, to which one of the results may be rounded next, has no member strictly between 0 and 1.
"""

from everyformat.chains import round_by
from everyformat.ratios import in_order, middle, minus, plus, times
from everyformat.rows import TURNED

ORDER = {"down": 0, "near": 1, "up": 2}
HALF = (1, 2)
LEFT = (1, 4)
RIGHT = (3, 4)


def rows_of_word(levels, chain, word, point):
    """The LOG of the roundings by which a FRACTION is passed on."""
    rows = []
    for level, kind in word:
        rows.append((level, kind, point, round_by(levels, chain, level, kind, point)))
        point = rows[-1][3]
    return tuple(rows)


def led(levels, chain, word, point):
    """What a FRACTION is passed on to."""
    rows = rows_of_word(levels, chain, word, point)
    return rows[-1][3] if rows else point


def chain_of_view(view, many, width):
    """The CHAIN of so many parts in which the gap of a view is this wide, and so are all other ones."""
    marks = [(0, (0, 1))] + view[0]
    parts = [(in_order([times(x, width) for own, x in marks if own == level]), ()) for level in range(many)]
    return ((width, width), tuple(parts))


def level_of(levels, word):
    """The level of the last rounding of a WORD; that of () counts as wider than all."""
    return word[-1][0] if word else len(levels)


def turned_levels(levels):
    return tuple([(TURNED[side], None) for side, _ in levels])


def turned_word_of(word):
    return tuple([(level, TURNED[kind]) for level, kind in word])


def _turned_view(view):
    if view is None:
        return None
    return ([(level, minus((1, 1), x)) for level, x in view[0]], minus((1, 1), view[1]))


def _alone(levels, level, x):
    """The view in which x is passed on, and a member for all levels wider than this one."""
    return ([(level + 1, x)] if level + 1 < len(levels) else [], x)


def _spread(levels, level, word, other, view):
    """A view in which word leads to more than other, within a wider gap in whose middle both are parted.

    The ends of the old gap are members for the levels wider than this one only.
    """
    chain = chain_of_view(view, len(levels), (1, 1))
    split = middle(led(levels, chain, word, view[1]), led(levels, chain, other, view[1]))
    marks = [(level + 1, (0, 1))] + view[0] + [(level + 1, (1, 1))]
    return ([(wide, _drawn_in(x, split)) for wide, x in marks], _drawn_in(view[1], split))


def _drawn_in(x, split):
    """x in the middle third or so of a gap, split being in its middle."""
    return plus(HALF, times(minus(x, split), (1, 3)))


def above(levels, word, other):
    """word leads to more than other."""
    b, c = level_of(levels, word), level_of(levels, other)
    if b == c:
        return _above_at_one(levels, word, other) if word else None
    if b < c:
        return top(levels, word[:-1], other) if word[-1][1] == "down" else _alone(levels, b, RIGHT)
    return _turned_top(levels, word, other[:-1]) if other[-1][1] == "up" else _alone(levels, c, LEFT)


def _above_at_one(levels, word, other):
    """The same if the last roundings are for one level."""
    level, kind, behind = word[-1][0], word[-1][1], other[-1][1]
    word, other = word[:-1], other[:-1]
    if ORDER[kind] > ORDER[behind]:
        return _alone(levels, level, RIGHT if behind == "down" else LEFT)
    if kind == behind:
        if kind == "near":
            return _spread_above(levels, level, word, other)
        return top(levels, word, other) if kind == "down" else _turned_top(levels, word, other)
    if behind == "near":
        return short(levels, word, other, levels[level][0])
    if kind == "near":
        return _turned_short(levels, word, other, TURNED[levels[level][0]])
    return apart(levels, word, other)


def _spread_above(levels, level, word, other):
    view = above(levels, word, other)
    return None if view is None else _spread(levels, level, word, other, view)


def _turned_top(levels, word, other):
    return _turned_view(top(turned_levels(levels), turned_word_of(other), turned_word_of(word)))


def _turned_short(levels, word, other, side):
    return _turned_view(short(turned_levels(levels), turned_word_of(other), turned_word_of(word), side))


def _without(word, kind):
    """A WORD without a rounding of this kind at its end."""
    return word[:-1] if word and word[-1][1] == kind else word


def top(levels, word, other):
    """word leads to 1, other to less."""
    word, other = _without(word, "down"), _without(other, "down")
    if not word:
        return None
    b, c = level_of(levels, word), level_of(levels, other)
    if b < c:
        return _alone(levels, b, RIGHT)
    if b == c:
        return above(levels, word, other)
    if other[-1][1] == "up":
        return apart(levels, word, other[:-1])
    return short(levels, word, other[:-1], levels[c][0])


def apart(levels, word, other):
    """word leads to 1, other to 0."""
    word, other = _without(word, "down"), _without(other, "up")
    if not word or not other:
        return None
    b, c = level_of(levels, word), level_of(levels, other)
    kind, behind = word[-1][1], other[-1][1]
    if b == c:
        if kind == "near" and behind == "near":
            return _spread_above(levels, b, word[:-1], other[:-1])
        return _alone(levels, b, LEFT if behind == "near" else RIGHT)
    if b < c:
        if kind == "up":
            return _turned_top(levels, word[:-1], other)
        return _turned_short(levels, word[:-1], other, TURNED[levels[b][0]])
    if behind == "down":
        return top(levels, word, other[:-1])
    return short(levels, word, other[:-1], levels[c][0])


def short(levels, word, other, side):
    """word leads to 1, other to less than the middle, or to the middle if side is low."""
    word = _without(word, "down")
    if not word:
        return None
    b, c = level_of(levels, word), level_of(levels, other)
    if b == c:
        return above(levels, word, other)
    if b > c:
        return apart(levels, word, other)
    if word[-1][1] == "up":
        return _alone(levels, b, LEFT)
    view = _spread_above(levels, b, word[:-1], other)
    if view is None and levels[b][0] == "high" and side == "low":
        return _alone(levels, b, HALF)
    return view
