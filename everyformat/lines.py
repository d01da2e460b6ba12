"""Lines of texts, their levels and FRACTIONS, and the reading of SUMS and ITEMS."""

from everyformat.errors import BadLine
from everyformat.figures import FIGURES
from everyformat.programs import EXTREMES, ROUNDINGS
from everyformat.ratios import fraction, negated, plus, times

LETTERS = "abcdefghijklmnopqrstuvwxyz"
RESERVED = ("in", "free", "down", "up", "near", "least", "greatest", "if", "else")
DIGITS = 300
LEVEL_DIGITS = 9
NAME_SIGNS = 12
DEPTH = 20


def lines_of(text):
    return text.split("\n") if text else []


def is_digits(text, most):
    """Whether text is from one to so many figures."""
    return 0 < len(text) <= most and all([sign in FIGURES for sign in text])


def level_by(text, many):
    """The level, below many, that text denotes; None if it is no such text."""
    if not is_digits(text, LEVEL_DIGITS) or int(text) >= many:
        return None
    return int(text)


def fraction_by(text):
    """The FRACTION that figures, or figures/figures, denote; None if text is nothing such."""
    top, slash, bottom = text.partition("/")
    if not is_digits(top, DIGITS) or (slash and not is_digits(bottom, DIGITS)):
        return None
    if slash and int(bottom) == 0:
        return None
    return fraction(int(top), int(bottom) if slash else 1)


def x_by(text):
    """The FRACTION that an X denotes; None if text is no X."""
    found = fraction_by(text[1:] if text[:1] == "-" else text)
    return found if found is None or text[:1] != "-" else negated(found)


def is_name(text):
    if not 0 < len(text) <= NAME_SIGNS or text[0] not in LETTERS or text in RESERVED:
        return False
    return all([sign in LETTERS or sign in FIGURES for sign in text])


def depth_of(text):
    """How deep round brackets are nested."""
    depth, deepest = 0, 0
    for sign in text:
        if sign == "(":
            depth += 1
            deepest = max(deepest, depth)
        elif sign == ")":
            depth -= 1
    return deepest


class Reader:
    """Reads the right side of a line, and adds the STEPS of the cells that it needs.

    A SUM is read as a triple: its fixed part, a dict of its factors by cells, and what it is if it is one NAME
    or one part with a cell of its own alone: ("name", cell) or ("part", cell), otherwise None.
    """

    def __init__(self, levels, line, text, names, steps, many):
        self.levels = levels
        self.line = line
        self.text = text
        self.names = names
        self.steps = steps
        self.many = many
        self.at = 0

    def sees(self, text):
        return self.text[self.at:self.at + len(text)] == text

    def skips(self, text):
        """Goes on behind text if it stands here; whether it does."""
        if not self.sees(text):
            return False
        self.at += len(text)
        return True

    def need(self, text):
        if not self.skips(text):
            raise BadLine(self.line)

    def word(self, signs):
        """Goes on behind as many of these signs as stand here, and returns them."""
        start = self.at
        while self.at < len(self.text) and self.text[self.at] in signs:
            self.at += 1
        return self.text[start:self.at]

    def read_figures(self):
        found = self.word(FIGURES)
        if not is_digits(found, DIGITS):
            raise BadLine(self.line)
        return int(found)

    def read_bottom(self):
        found = self.read_figures()
        if found == 0:
            raise BadLine(self.line)
        return found

    def added(self, step):
        """The cell of a STEP that comes next."""
        self.steps.append(step)
        return self.many + len(self.steps) - 1

    def form_of(self, fixed, factors):
        """A FORM of all cells so far."""
        many = self.many + len(self.steps)
        return (fixed, tuple([factors.get(cell, (0, 1)) for cell in range(many)]))

    def read_line(self):
        """All of the right side; its cell comes last."""
        fixed, factors, alone = self.read_sum()
        if self.skips(" if "):
            a = self.item_cell(fixed, factors, alone)
            asked = self.read_sum()
            self.need(" else ")
            b = self.read_item()
            self.added(("pick", self.form_of(asked[0], asked[1]), a, b))
        elif alone is None or alone[0] == "name":
            self.added(("exact", self.form_of(fixed, factors)))
        if self.at < len(self.text):
            raise BadLine(self.line)

    def read_item(self):
        """The cell of an ITEM."""
        fixed, factors, alone = self.read_sum()
        return self.item_cell(fixed, factors, alone)

    def item_cell(self, fixed, factors, alone):
        if alone is not None:
            return alone[1]
        return self.added(("exact", self.form_of(fixed, factors)))

    def read_sum(self):
        start_sign = (-1, 1) if self.skips("-") else (1, 1)
        fixed, factors, alone = self.read_term(start_sign)
        if start_sign[0] < 0:
            alone = None
        while self.sees(" + ") or self.sees(" - "):
            sign = (1, 1) if self.sees(" + ") else (-1, 1)
            self.at += 3
            more, others, _ = self.read_term(sign)
            fixed, factors, alone = plus(fixed, more), _joined(factors, others), None
        return (fixed, factors, alone)

    def read_term(self, sign):
        """A term times sign; what it is alone if it is a part without a factor."""
        factor, is_plain = sign, True
        if self.at < len(self.text) and self.text[self.at] in FIGURES:
            factor = times(sign, self.read_fraction())
            if not self.skips("*"):
                return (factor, {}, None)
            is_plain = False
        fixed, factors, alone = self.read_part()
        if self.skips("/"):
            factor = times(factor, fraction(1, self.read_bottom()))
            is_plain = False
        scaled = {cell: times(factors[cell], factor) for cell in factors}
        return (times(fixed, factor), scaled, alone if is_plain else None)

    def read_fraction(self):
        top = self.read_figures()
        return fraction(top, self.read_bottom() if self.skips("/") else 1)

    def read_part(self):
        if self.skips("("):
            fixed, factors, _ = self.read_sum()
            self.need(")")
            return (fixed, factors, None)
        word = self.word(LETTERS + FIGURES)
        if word in ROUNDINGS:
            return self.own_part(self.read_rounding(word))
        if word in EXTREMES:
            return self.own_part(self.read_extreme(word))
        if word not in self.names:
            raise BadLine(self.line)
        cell = self.names[word]
        return ((0, 1), {cell: (1, 1)}, ("name", cell))

    def own_part(self, step):
        cell = self.added(step)
        return ((0, 1), {cell: (1, 1)}, ("part", cell))

    def read_rounding(self, kind):
        self.need(".")
        level = level_by(self.word(FIGURES), len(self.levels))
        if level is None:
            raise BadLine(self.line)
        self.need("(")
        fixed, factors, _ = self.read_sum()
        self.need(")")
        return ("round", level, kind, self.form_of(fixed, factors))

    def read_extreme(self, word):
        self.need("(")
        a = self.read_item()
        self.need(", ")
        b = self.read_item()
        self.need(")")
        return (word, a, b)


def _joined(factors, others):
    """The sums of both factors for each cell."""
    joined = {cell: factors[cell] for cell in factors}
    for cell in others:
        joined[cell] = plus(joined.get(cell, (0, 1)), others[cell])
    return joined
