"""Questions at random about the runs of PROGRAMS, and judges of what is told of them, by Fraction.

A question comes with a CHAIN in which its LOG holds and WORTHS of a run in it that keep its facts.
"""

from fractions import Fraction

from everyformat.cases import conditions, denials, letter_forms
from tests import exact, plays
from tests.judges import closes, is_point, pair, pairs, quotient, value_at

ONE, NONE = (1, 1), (0, 1)


def some_program(rng, levels, rounds, choices, starts):
    """A PROGRAM with at most so many roundings, choices and starts, and some exact STEPS."""
    first = tuple(rng.choice([None] + list(range(levels))) for _ in range(rng.randint(0, starts)))
    words = ["round"] * rng.randint(1, rounds) + ["exact"] * rng.randint(0, 2)
    words += [rng.choice(plays.CHOICES) for _ in range(rng.randint(0, choices))]
    rng.shuffle(words)
    steps = []
    for word in words:
        many = len(first) + len(steps)
        if word == "round" and many:
            form = plays.some_form(rng, many) if rng.random() < 0.5 else single(rng.randrange(many), many)
            steps.append(("round", rng.randrange(levels), rng.choice(["down", "up", "near", "near"]), form))
        else:
            steps.append(plays.some_step(rng, levels, many, (word,)))
    return (first, tuple(steps))


def single(place, many):
    return (NONE, tuple(ONE if at == place else NONE for at in range(many)))


def less(one, two, many):
    """The FORM cell one less cell two."""
    return (NONE, tuple(pair((at == one) - (at == two)) for at in range(many)))


def some_facts(rng, worths, many):
    """Pairs that hold at WORTHS: most of one worth or of two, with some room."""
    facts = []
    for _ in range(many if worths else 0):
        factors = [Fraction(0)] * len(worths)
        factors[rng.randrange(len(worths))] = Fraction(rng.choice([-1, 1]))
        if rng.random() < 0.4:
            factors[rng.randrange(len(worths))] = Fraction(rng.choice([-1, 1]))
        room = Fraction(rng.choice([0, 1, 2, 5]), rng.choice([1, 2]))
        fixed = room - sum(x * y for x, y in zip(factors, worths))
        facts.append(((pair(fixed), pairs(*factors)), room > 0 and rng.random() < 0.3))
    return tuple(facts)


def some_question(rng, gapped, rounds=2, choices=1, starts=2, rows=4):
    """A tuple: LEVELS, LOG, PROGRAM and facts; and a CHAIN and WORTHS of a run."""
    levels, chain, members = exact.some_formats(rng, gapped)
    log = exact.rows_in(rng, levels, chain, members, rng.randint(0, rows))
    program = some_program(rng, len(levels), rounds, choices, starts)
    worths = [min(members[level], key=lambda x: abs(x - spot)) if level is not None else spot
              for level, spot in [(level, Fraction(rng.randint(-24, 24), rng.choice([1, 2, 3]))) for level in program[0]]]
    facts = some_facts(rng, worths, rng.choice([0, 0, 2, 4]))
    return (levels, log, program, facts), chain, worths


def more_runs(rng, question, chain, worths, many):
    """Further runs of a question in the same CHAIN: lists of cells with their WAYS."""
    levels, log, program, facts = question
    found = []
    for _ in range(many):
        moved = [x + Fraction(rng.randint(-12, 12), rng.choice([1, 2, 4])) for x in worths]
        moved = [x if level is None else exact.below_in(chain, level, x) for level, x in zip(program[0], moved)]
        if is_point(facts, pairs(*moved)):
            cells, way, _ = exact.played_in(levels, chain, program, moved)
            found.append((cells, way))
    return found


def is_run(question, run):
    """Whether a pair (CHAIN, WORTHS) is a run of a question: the cells and the WAY, or None."""
    levels, log, program, facts = question
    chain, worths = run
    values = [quotient(x) for x in worths]
    if not is_point(facts, worths) or not shows(levels, chain, log):
        return None
    if any(level is not None and exact.below_in(chain, level, x) != x for level, x in zip(program[0], values)):
        return None
    cells, way, _ = exact.played_in(levels, chain, program, values)
    return cells, way


def shows(levels, chain, log):
    """Whether a LOG holds in a CHAIN and it keeps the GAPS, by the ends of its marks and fills."""
    for level, kind, point, result in log:
        x = quotient(point)
        if kind == "member" and exact.below_in(chain, level, x) != x:
            return False
        if kind != "member" and exact.round_in(levels, chain, level, kind, x) != quotient(result):
            return False
    return all(gap is None or keeps(chain, level, gap) for level, (_, gap) in enumerate(levels))


def keeps(chain, level, gap):
    """Whether neighbours for a level keep a GAP: those at ends of marks and fills, those near 0, and far ones."""
    start, step = [quotient(x) for x in chain[0]]
    spots = {start, start + step, -start, Fraction(0)}
    for marks, fills in chain[1][:level + 1]:
        spots |= {quotient(mark) for mark in marks}
        for fill in fills:
            low, high, length = [quotient(x) for x in fill]
            inmost = [x for x in (below_or(low, high, length, 0), low, high) if low <= x <= high]
            spots |= {low, high} | set(inmost) | {x + length for x in inmost if x < high} | {x - length for x in inmost if x > low}
    for x in spots:
        u = exact.below_in(chain, level, x)
        v = next_in(chain, level, u)
        if v - u - quotient(gap[0]) - quotient(gap[1]) * min(abs(u), abs(v)) > 0:
            return False
    return True


def below_or(low, high, length, x):
    return low + (x - low) // length * length if low <= x <= high else low


def next_in(chain, level, u):
    """The least member that is greater than the member u."""
    start, step = [quotient(x) for x in chain[0]]
    found = [-exact.far_below((start, step), -u - Fraction(1, 10 ** 90))]
    for marks, fills in chain[1][:level + 1]:
        found += [quotient(mark) for mark in marks if quotient(mark) > u]
        for fill in fills:
            low, high, length = [quotient(x) for x in fill]
            if low > u:
                found.append(low)
            elif high > u:
                found.append(low + ((u - low) // length + 1) * length)
    return min(x for x in found if x > u)


def holds(claim, cells):
    value = value_at(claim[1], pairs(*cells))
    return {"at least": value >= 0, "above": value > 0, "equal": value == 0}[claim[0]]


def closes_tree(question, system, tree, many, known=None):
    """Whether a TREE closes a SYSTEM of so many letters, by own sums, given the CONDITIONS that there are."""
    if tree[0] == "closed":
        return closes(system, tree[1], many)
    if tree[0] == "fault":
        return not exact.is_possible(question[0], question[1])
    cases = known[tree[1]]
    if len(cases) != len(tree[2]):
        return False
    return all(closes_tree(question, system + case, part, many, known) for case, part in zip(cases, tree[2]))


def is_paper(question, claim, trees):
    """Whether these are TREES for the denials of a CLAIM."""
    levels, log, program, facts = question
    many = len([step for step in program[1] if step[0] != "exact"]) + len(program[0])
    longer = tuple(((form[0], form[1] + (NONE,) * (many - len(form[1]))), strict) for form, strict in facts)
    asked = denials(program, claim)
    if len(asked) != len(trees):
        return False
    known = conditions(levels, log, program)
    return all(closes_tree(question, longer + denial, tree, many, known) for denial, tree in zip(asked, trees))


def letters_log(program, letters):
    """The ROWS of a run whose letters are given, and whether its choices and directions go right."""
    forms = letter_forms(program)
    cells = [value_at(form, letters) for form in forms]
    rows = [(level, "member", pair(x), pair(x)) for level, x in zip(program[0], cells) if level is not None]
    is_right = True
    for cell, step in enumerate(program[1], start=len(program[0])):
        if step[0] == "round":
            rows.append((step[1], step[2], pair(plays.form_value(step[3], cells[:cell])), pair(cells[cell])))
        else:
            is_right = is_right and plays.next_cell(step, cells[:cell], None)[0] == cells[cell]
    return tuple(rows), is_right
