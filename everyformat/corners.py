"""A search among the corners of a SYSTEM, in whole numbers.

Each pair is made whole, and each strict one asks for its FORM to be at least `hair`, an amount greater
than 0 but less than every FRACTION: so values are pairs (whole, hairs), compared as Python compares them.
"""

from math import lcm

from everyformat.ratios import fraction, lesser

# Past so many turns for one pair the choice is by the least place, which cannot go round in a ring.
PATIENCE = 60


class Corner:
    """Where as many *heads* as there are unknowns are 0.

    A head is a pair's place, standing for what its FORM has more than it needs, or -1 - k for unknown k.
    Unknown k is the sum of rows[k] times (1, hair, the heads), over bottom. (A row stays whole: its
    numbers are minors of the whole SYSTEM, bottom the minor that belongs to the heads.)
    """

    def __init__(self, system, many):
        self.many = many
        self.pairs = [whole_form(form) for form, _ in system]
        self.hairs = [1 if strict else 0 for _, strict in system]
        self.bottom = 1
        self.heads = [-1 - place for place in range(many)]
        self.rows = [[0, 0] + [1 if at == place else 0 for at in range(many)] for place in range(many)]

    def grown(self, made):
        """Another Corner, at the same place, with further pairs, of a whole FORM and whether it is strict."""
        corner = Corner((), self.many)
        corner.pairs = self.pairs + [form for form, _ in made]
        corner.hairs = self.hairs + [1 if strict else 0 for _, strict in made]
        corner.bottom, corner.heads, corner.rows = self.bottom, list(self.heads), self.rows
        return corner

    def row_of(self, made, hair):
        """What a FORM that was made whole is, less hair, in terms of (1, hair, the heads), times bottom."""
        row = [made[1] * self.bottom, -hair * self.bottom] + [0] * self.many
        for place, factor in made[2]:
            row = [x + factor * y for x, y in zip(row, self.rows[place])]
        return row

    def pair_row(self, place):
        return self.row_of(self.pairs[place], self.hairs[place])

    def column(self, at):
        """How each pair grows with the thing at this place of a row, times bottom."""
        steps = [row[at] for row in self.rows]
        return [sum([factor * steps[place] for place, factor in made[2]]) for made in self.pairs]

    def standings(self):
        """What each pair has here more than it needs, times bottom."""
        wholes = [made[1] * self.bottom + x for made, x in zip(self.pairs, self.column(0))]
        hairs = [x - hair * self.bottom for hair, x in zip(self.hairs, self.column(1))]
        return list(zip(wholes, hairs))

    def turn(self, place, at):
        """Lets the pair at this place be the head at this place of the rows."""
        row = self.pair_row(place)
        sign = 1 if row[at] > 0 else -1
        lead = [sign * x for x in row]
        self.rows = [_turned(old, lead, at, sign, self.bottom) for old in self.rows]
        self.bottom = lead[at]
        self.heads[at - 2] = place

    def loosen(self, place):
        """The pair at this place is strict no more."""
        self.hairs[place] = 0
        if place in self.heads:
            at = self.heads.index(place) + 2
            self.rows = [[row[0], row[1] - row[at]] + row[2:] for row in self.rows]


def _turned(old, lead, at, sign, bottom):
    """A row once the pair with the row lead, made greater than 0 at this place, is the head there."""
    new = [(x * lead[at] - old[at] * y) // bottom for x, y in zip(old, lead)]
    new[at] = sign * old[at]
    return new


def whole_form(form):
    """A triple: a number, and the fixed part and the factors, with their places, of so many times form."""
    size = form[0][1]
    for factor in form[1]:
        size = lcm(size, factor[1])
    terms = [(place, x[0] * (size // x[1])) for place, x in enumerate(form[1]) if x[0]]
    return (size, form[0][0] * (size // form[0][1]), terms)


def rising(corner, row, turns):
    """The place in row of a head that makes it greater, None if there is none."""
    for at, head in enumerate(corner.heads, start=2):
        if head < 0 and row[at]:
            return at
    ways = [place for place in range(2, corner.many + 2) if row[place] > 0]
    if turns > PATIENCE:
        return min(ways, key=lambda place: corner.heads[place - 2], default=None)
    return max(ways, key=lambda place: row[place], default=None)


def blocking(corner, at, sign, lifted):
    """The pair that is the first to reach 0 if the thing at this place of the rows grows (sign 1) or shrinks.

    Pairs that are below 0 do not count, but for the one that is lifted (None: none is), which ends the way.
    """
    best = None
    for place, (value, slope) in enumerate(zip(corner.standings(), corner.column(at))):
        limit = (value, -sign * slope, place)
        if place == lifted:
            limit = ((-value[0], -value[1]), sign * slope, place)
        if limit[1] > 0 and limit[0] >= (0, 0) and (best is None or _is_sooner(limit, best, lifted)):
            best = limit
    return None if best is None else best[2]


def _is_sooner(limit, best, lifted):
    """Whether the way to a limit (what is left, how fast it goes, place) is shorter; lifted wins a tie."""
    left = (limit[0][0] * best[1], limit[0][1] * best[1])
    right = (best[0][0] * limit[1], best[0][1] * limit[1])
    return left < right or (left == right and limit[2] == lifted)


def lifts(corner, place):
    """Goes where the pair at this place is 0 or more, and those that are so stay so; whether it got there."""
    turns = 0
    while True:
        row = corner.pair_row(place)
        if (row[0], row[1]) >= (0, 0):
            return True
        at = rising(corner, row, turns)
        if at is None:
            return False
        sign = 1 if row[at] > 0 else -1
        corner.turn(blocking(corner, at, sign, place), at)
        turns += 1


def stuck_pair(corner):
    """Goes to a corner at which no pair is below 0, and returns None; or a pair that can't be lifted."""
    while True:
        below = [place for place, value in enumerate(corner.standings()) if value < (0, 0)]
        if not below:
            return None
        if not lifts(corner, below[0]):
            return below[0]


def climbs(corner, made):
    """From a corner at which no pair is below 0, goes where the FORM that was made whole is greatest.

    Returns None, or, if it has no greatest value, the place and the sign of the head that has no end.
    """
    turns = 0
    while True:
        row = corner.row_of(made, 0)
        at = rising(corner, row, turns)
        if at is None:
            return None
        sign = 1 if row[at] > 0 else -1
        block = blocking(corner, at, sign, None)
        if block is None:
            return (at, sign)
        corner.turn(block, at)
        turns += 1


def point_at(corner):
    """The FRACTIONS of the unknowns, hair being small enough for all pairs that are not below 0."""
    hair = (1, 1)
    for value, hairs in corner.standings():
        if hairs < 0:
            hair = lesser(hair, fraction(value, -hairs))
    return tuple([fraction(row[0] * hair[1] + row[1] * hair[0], corner.bottom * hair[1]) for row in corner.rows])


def edge_at(corner):
    """The FRACTIONS of the unknowns, hair being 0."""
    return tuple([fraction(row[0], corner.bottom) for row in corner.rows])


def way_at(corner, at, sign):
    """How the unknowns go if the head at this place goes."""
    return tuple([fraction(sign * row[at], corner.bottom) for row in corner.rows])


def head_weights(corner, row, size):
    """Weights for the heads that take them out of row, which is size times a FORM; 0 for all other pairs."""
    weights = [(0, 1)] * len(corner.pairs)
    for at, head in enumerate(corner.heads, start=2):
        if head >= 0:
            weights[head] = fraction(-row[at] * corner.pairs[head][0], corner.bottom * size)
    return weights


def closing_weights(corner, stuck):
    """Weights that show that a pair can't be lifted."""
    size = corner.pairs[stuck][0]
    weights = head_weights(corner, corner.pair_row(stuck), size)
    weights[stuck] = (1, 1)
    return tuple(weights)
