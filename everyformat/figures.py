"""Numbers from 0 on as figures and back, of any length.

str() and int() refuse numbers of more than some thousand figures, so long ones are taken in halves.
"""

FIGURES = "0123456789"
SHORT = 64


def is_figures(text):
    """Whether text is figures that do not begin with a needless 0."""
    if not text or not all([sign in FIGURES for sign in text]):
        return False
    return text == "0" or text[0] != "0"


def figures_of(number):
    """The figures of a number that is at least 0."""
    ladder = [10 ** 64]
    while ladder[-1] * ladder[-1] <= number:
        ladder.append(ladder[-1] * ladder[-1])
    return _written(number, ladder, len(ladder) - 1)


def _written(number, ladder, rung):
    """The figures of a number that is less than the square of this rung."""
    if rung < 0:
        return str(number)
    high, low = divmod(number, ladder[rung])
    tail = _written(low, ladder, rung - 1)
    if high == 0:
        return tail
    return _written(high, ladder, rung - 1) + tail.zfill(SHORT << rung)


def number_by(figures):
    """The number of which these are the figures."""
    ladder = [10 ** 64]
    while (SHORT << len(ladder)) < len(figures):
        ladder.append(ladder[-1] * ladder[-1])
    return _read(figures, ladder, len(ladder) - 1)


def _read(figures, ladder, rung):
    if rung < 0:
        return int(figures)
    width = SHORT << rung
    if len(figures) <= width:
        return _read(figures, ladder, rung - 1)
    high = _read(figures[:-width], ladder, rung - 1)
    return high * ladder[rung] + _read(figures[-width:], ladder, rung - 1)
