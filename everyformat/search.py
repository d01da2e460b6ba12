"""The search for runs of a PROGRAM: FRACTIONS for the letters that keep a case of each CONDITION.

At a corner of what is asked so far, a CONDITION is looked for of which no case holds there, and its cases are
asked for one after the other. What holds at a corner is meant with `hair` (corners.py) as little as needed, and,
if something grows without end, as far out as needed.
"""

from everyformat.build import build_chain
from everyformat.cases import check_bearable, letter_forms, many_letters, told_conditions
from everyformat.corners import Corner, closing_weights, stuck_pair, whole_form
from everyformat.machine import rows_of
from everyformat.possible import fault
from everyformat.ratios import ceiling_of, fraction, lesser, over
from everyformat.shapes import tupled
from everyformat.straight import form_at, longer_form, put_in
from everyformat.trees import without_pairs

# How many CONDITIONS are tried out, those first that are farthest from holding.
TRIES = 3


class Field:
    """What is asked of runs: LEVELS, a LOG, a PROGRAM and facts; raises TooMuch if this is too much."""

    def __init__(self, levels, log, program, facts):
        self.levels, self.log, self.program = tupled(levels), tupled(log), tupled(program)
        check_bearable(self.levels, self.program)
        self.many = many_letters(self.program)
        self.forms = letter_forms(self.program)
        self.facts = tuple([(longer_form(form, self.many), strict) for form, strict in facts])
        self.fault = fault(self.levels, self.log)
        self.conditions = told_conditions(self.levels, self.log, self.program)
        self.made = [[made_case(case) for case in cases] for _, cases in self.conditions]

    def letter_form(self, form):
        """A FORM of all cells as one of the letters."""
        return put_in(form, self.forms, self.many)


def made_case(case):
    """The pairs of a SYSTEM with whole FORMS."""
    return [(whole_form(form), strict) for form, strict in case]


class Spot:
    """Where a corner is: its columns, and how it goes on if something grows without end (None: nothing does)."""

    def __init__(self, corner, endless):
        self.bottom = corner.bottom
        self.start = [row[0] for row in corner.rows]
        self.hair = [row[1] for row in corner.rows]
        self.way = [0] * corner.many
        if endless is not None:
            at, sign = endless
            self.way = [sign * row[at] for row in corner.rows]

    def worth(self, made):
        """What a whole FORM is here: a triple, of which the first that is not 0 tells."""
        way, start, hair = 0, made[1] * self.bottom, 0
        for place, factor in made[2]:
            way += factor * self.way[place]
            start += factor * self.start[place]
            hair += factor * self.hair[place]
        return (way, start, hair)


def _shortfall(spot, case):
    """None if a case holds here; otherwise a pair that tells how far its worst pair is from holding."""
    worst = None
    for made, strict in case:
        worth = spot.worth(made)
        if worth < (0, 0, 0) or (strict and worth == (0, 0, 0)):
            size = made[0] * spot.bottom
            short = ((-worth[0] << 32) // size, (-worth[1] << 32) // size)
            worst = short if worst is None else max(worst, short)
    return worst


def open_places(field, spot):
    """The places of the CONDITIONS of which no case holds here, those first that are farthest from it."""
    found = []
    for place, cases in enumerate(field.made):
        least = None
        for case in cases:
            short = _shortfall(spot, case)
            if short is None:
                least = None
                break
            least = short if least is None else min(least, short)
        if least is not None:
            found.append((least, place))
    return [place for _, place in sorted(found, key=lambda one: (-one[0][0], -one[0][1], one[1]))]


def root_of(field, pairs):
    """A corner of the facts and of these pairs of the letters."""
    return Corner(field.facts + tuple(pairs), field.many)


def _branches(field, corner, place):
    """For each case of a CONDITION a corner that asks for it, too, and the pair at which that is stuck."""
    found = []
    for case in field.made[place]:
        branch = corner.grown(case)
        found.append((branch, stuck_pair(branch)))
    return found


def _chosen(field, corner, places):
    """The place of a CONDITION, and its branches: of those that are tried one with the fewest to be gone into."""
    best = None
    for place in places[:TRIES]:
        branches = _branches(field, corner, place)
        many = len([stuck for _, stuck in branches if stuck is None])
        if best is None or many < best[0]:
            best = (many, place, branches)
        if many <= 1:
            break
    return best[1:]


def searched(field, pairs):
    """("run", letters) of a run at which pairs hold, or ("tree", TREE) for the facts followed by pairs."""
    if field.fault is not None:
        return ("tree", ("fault", field.fault))
    corner = root_of(field, pairs)
    stuck, stack = stuck_pair(corner), []
    while True:
        if stuck is None:
            spot = Spot(corner, None)
            places = open_places(field, spot)
            if not places:
                return ("run", _letters_at(field, corner, spot))
            place, branches = _chosen(field, corner, places)
            stack.append((place, len(corner.pairs), branches, []))
        else:
            done = _unwound(stack, _closed(corner, stuck))
            if not stack:
                return ("tree", done[0])
        corner, stuck = stack[-1][2][len(stack[-1][3])]


def _closed(corner, stuck):
    """A leaf: a TREE, and the places of the pairs that have a weight."""
    weights = closing_weights(corner, stuck)
    return (("closed", weights), [place for place, weight in enumerate(weights) if weight[0]])


def _unwound(stack, done):
    """Puts a TREE that is done where it belongs, and all that are done by this, until there is one to be gone into.

    A TREE that has no weight for its case is one without it, too, so the other cases are left out.
    """
    while stack:
        place, many, branches, parts = stack[-1]
        width = len(branches[len(parts)][0].pairs) - many
        parts.append(done)
        if done[1] and done[1][-1] >= many:
            if len(parts) < len(branches):
                return None
            used = sorted([one for _, places in parts for one in places if one < many])
            done = (("cases", place, tuple([tree for tree, _ in parts])), used)
        else:
            done = (without_pairs(done[0], many, width), done[1])
        stack.pop()
    return done


def _letters_at(field, corner, spot):
    """The FRACTIONS of the letters here, hair being small enough for all pairs and CONDITIONS."""
    hair = (1, 1)
    for start, some in corner.standings():
        if some < 0:
            hair = lesser(hair, fraction(start, -some))
    for cases in field.made:
        kept = [case for case in cases if _shortfall(spot, case) is None]
        for made, _ in kept[0]:
            _, start, some = spot.worth(made)
            if some < 0:
                hair = lesser(hair, fraction(start, -2 * some))
    hair = fraction(1, ceiling_of(over((1, 1), hair)))
    bottom = spot.bottom * hair[1]
    return tuple([fraction(x * hair[1] + some * hair[0], bottom) for x, some in zip(spot.start, spot.hair)])


def some_letters(field, pairs):
    """The letters of a run at which pairs hold, None if there is none."""
    word, found = searched(field, pairs)
    return found if word == "run" else None


def run_of(field, letters):
    """A run as a pair (CHAIN, WORTHS), its letters being known."""
    cells = [form_at(form, letters) for form in field.forms]
    log = field.log + rows_of(field.program, cells)
    return (build_chain(field.levels, log), tuple(cells[:len(field.program[0])]))


def run_with_pairs(field, pairs):
    """A run at which pairs of the letters hold, as a pair (CHAIN, WORTHS); None if there is none."""
    letters = some_letters(field, pairs)
    return None if letters is None else run_of(field, letters)
