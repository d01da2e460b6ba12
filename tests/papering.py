"""A judge of PAPERS by the tests' own sums and roundings, and STATEMENTS at random."""

from fractions import Fraction

from everyformat.alike import beside
from everyformat.cases import conditions, denials
from everyformat.chains import is_chain
from everyformat.drift import exact_twin
from everyformat.passings import reduced
from tests import exact, grids, helpers, questions
from tests.judges import pair, quotient


def size(program):
    return len(program[0]) + len(program[1])


def is_fault(levels, log, fault):
    if fault[0] == "way":
        return fault[1] < len(log) and exact.wrong_way(log[fault[1]])
    if fault[0] == "inside":
        row, wide = [log[number] if number < len(log) else None for number in fault[1:]]
        return row is not None and wide is not None and wide[0] >= row[0] and grids.shuts_out(levels, wide, quotient(row[3]))
    _, level, bar = fault
    return level < len(levels) and bar in exact.bars(levels, log, level) and not exact.is_let(levels[level][1], bar)


def lot_bound(levels):
    gapped = [level for level, (_, gap) in enumerate(levels) if gap is not None]
    return 2 * (len(levels) - gapped[0]) if gapped else 2


def is_member(chain, level, x):
    return exact.below_in(chain, level, quotient(x)) == quotient(x)


def hinders(levels, log, members, others, thing):
    if thing[0] == "fault":
        return is_fault(levels, log, thing[1])
    if thing[0] == "long":
        _, level, bar = thing
        if level >= len(levels):
            return False
        return bar in exact.bars(levels, log, level, others) and not exact.is_let(levels[level][1], bar)
    wishes = members if thing[0] == "shut" else others
    if thing[1] >= len(wishes):
        return False
    level, x = wishes[thing[1]]
    if thing[0] == "shut":
        return any(row[0] >= level and grids.shuts_out(levels, row, quotient(x)) for row in log)
    return any(row[0] <= level and row[3] == x for row in log) or any(narrow <= level and y == x for narrow, y in members)


def asked(statement):
    """The LOG, the PROGRAM, the facts and the CLAIMS of a STATEMENT of runs."""
    word, log, program = statement[:3]
    if word in ("sure", "not sure"):
        return log, program, statement[3], [statement[4]]
    if word in ("alike", "unlike"):
        other, both = statement[3], beside(program, statement[3])
        last = size(other) - 1 if not other[1] else size(both) - 1
        return log, both, statement[4], [("equal", questions.less(size(program) - 1, last, size(both)))]
    facts, cell, worth = statement[3:]
    twin, moved = exact_twin(program), cell if cell < len(program[0]) else cell + len(program[1])
    forms = [questions.less(moved, cell, size(twin)), questions.less(cell, moved, size(twin))]
    return log, twin, facts, [("at least", (worth, form[1])) for form in forms]


def is_paper(levels, statement, thing):
    """Whether thing, which is built as a PAPER is, is one."""
    word = statement[0]
    if word == "possible":
        return is_chain(levels, thing) and questions.shows(levels, thing, statement[1])
    if word == "impossible":
        lot, fault = thing
        rises = all(one < other for one, other in zip(lot, lot[1:])) and all(0 <= number < len(statement[1]) for number in lot)
        return rises and len(lot) <= lot_bound(levels) and is_fault(levels, tuple(statement[1][number] for number in lot), fault)
    if word in ("can have", "cannot have"):
        _, log, members, others = statement
        if word == "cannot have":
            return hinders(levels, log, members, others, thing)
        has = is_chain(levels, thing) and questions.shows(levels, thing, log)
        return has and all(is_member(thing, *wish) for wish in members) and not any(is_member(thing, *wish) for wish in others)
    if word == "same":
        return thing == reduced(statement[1]) == reduced(statement[2])
    if word == "parted":
        chain, point = thing
        return is_chain(levels, chain) and questions.shows(levels, chain, ()) and len({
            passed(levels, chain, given, quotient(point)) for given in statement[1:]}) == 2
    return is_runs_paper(levels, statement, thing)


def passed(levels, chain, given, x):
    for level, kind in given:
        x = exact.round_in(levels, chain, level, kind, x)
    return x


def is_runs_paper(levels, statement, thing):
    log, program, facts, claims = asked(statement)
    question = (levels, log, program, facts)
    if statement[0] in ("sure", "alike"):
        return is_proof(question, claims[0], thing)
    if statement[0] == "drift":
        return all(is_proof(question, claim, trees) for claim, trees in zip(claims, thing))
    if not is_chain(levels, thing[0]):
        return False
    played = questions.is_run(question, thing)
    return played is not None and not all(questions.holds(claim, played[0]) for claim in claims)


def is_proof(question, claim, trees):
    levels, log, program, facts = question
    known, wanted = conditions(levels, log, program), denials(program, claim)
    if len(trees) != len(wanted) or not all(fits(levels, log, tree, len(facts) + 1, known) for tree in trees):
        return False
    return questions.is_paper(question, claim, trees)


def fits(levels, log, tree, many, known):
    """Whether a TREE has as many weights, cases and faults as it must."""
    if tree[0] == "closed":
        return len(tree[1]) == many
    if tree[0] == "fault":
        return is_fault(levels, log, tree[1])
    if tree[1] >= len(known) or len(tree[2]) != len(known[tree[1]]):
        return False
    return all(fits(levels, log, part, many + len(case), known) for part, case in zip(tree[2], known[tree[1]]))


def some_log_statement(rng):
    levels, log = grids.some_log(rng, 6)
    return levels, (rng.choice(["possible", "impossible"]), log)


def some_wish_statement(rng):
    levels, log = exact.possible_log(rng, 5) if rng.random() < 0.8 else grids.some_log(rng, 4)
    spots = exact.interesting(rng, levels, log, 4)
    wishes = [tuple((rng.randrange(len(levels)), rng.choice(spots)) for _ in range(rng.randint(0, 3))) for _ in range(2)]
    return levels, (rng.choice(["can have", "cannot have"]), log) + tuple(wishes)


def some_word_statement(rng):
    many = rng.randint(1, 4)
    levels = tuple((rng.choice(["low", "high"]), grids.some_gap(rng)) for _ in range(many))
    words = [tuple((rng.randrange(many), rng.choice(["down", "up", "near"])) for _ in range(rng.randint(0, 5))) for _ in range(2)]
    if rng.random() < 0.5:
        words[1] = reduced(words[0])
    return levels, (rng.choice(["same", "parted"]),) + tuple(words)


def some_run_statement(rng, some_claim, some_other):
    while True:
        (levels, log, program, facts), _, _ = questions.some_question(rng, rng.random() < 0.7, starts=2)
        word = rng.choice(["sure", "not sure", "drift", "more drift", "alike", "unlike"])
        if not size(program):
            continue
        if word in ("sure", "not sure"):
            found = (word, log, program, facts, some_claim(rng, program))
        elif word in ("drift", "more drift"):
            worth = pair(rng.choice([Fraction(0), Fraction(1, 2), Fraction(3), Fraction(100), Fraction(1, 7)]))
            found = (word, log, program, facts, rng.randrange(size(program)), worth)
        else:
            other = some_other(rng, len(levels), program)
            if not size(other):
                continue
            found = (word, log, program, other, facts)
        _, asked_program, _, _ = asked(found)
        rounds = len([step for step in asked_program[1] if step[0] == "round"])
        letters = len(asked_program[0]) + len([step for step in asked_program[1] if step[0] != "exact"])
        if rounds <= 3 and letters <= 8 and not any(gap for _, gap in levels[:-1]):
            return levels, found


def changed_once(rng, thing):
    """thing with one number, FRACTION or truth in it changed, such that it is still built as before."""
    spots = []

    def look(part, path):
        if isinstance(part, tuple):
            if len(part) == 2 and all(type(x) is int for x in part) and part[1] > 0:
                spots.append((path, part))
                return
            for at, inner in enumerate(part):
                look(inner, path + (at,))
        elif type(part) in (int, bool):
            spots.append((path, part))

    look(thing, ())
    if not spots:
        return None
    path, part = rng.choice(spots)
    if isinstance(part, bool):
        new = not part
    elif isinstance(part, int):
        new = part + 1
    else:
        new = pair(quotient(part) + rng.choice([1, -1, Fraction(1, 7), Fraction(-1, 2), 10 ** 9]))
    return helpers.changed_at(thing, path, lambda _: new)

