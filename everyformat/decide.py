"""What a PROGRAM surely computes in the formats in which a LOG holds."""

from everyformat.cases import denials, turned
from everyformat.errors import CanNot
from everyformat.programs import CHOICES, choice_form
from everyformat.search import Field, run_with_pairs, searched, some_letters
from everyformat.shapes import tupled
from everyformat.straight import form_at


def signs(levels, log, program, facts, form):
    field = Field(levels, log, program, facts)
    form = field.letter_form(form)
    asked = ((-1, ((turned(form), True),)), (0, ((form, False), (turned(form), False))), (1, ((form, True),)))
    return tuple([sign for sign, pairs in asked if some_letters(field, pairs) is not None])


def claimed(field, claim):
    """The pairs of the letters that say that a CLAIM holds."""
    form = field.letter_form(claim[1])
    if claim[0] == "equal":
        return ((form, False), (turned(form), False))
    return ((form, claim[0] == "above"),)


def claim_status(levels, log, program, facts, claim):
    field = Field(levels, log, program, facts)
    holds = some_letters(field, claimed(field, claim)) is not None
    fails = any([some_letters(field, denial) is not None for denial in denials(program, claim)])
    if holds:
        return "some" if fails else "sure"
    return "never" if fails else "none"


def some_run(levels, log, program, facts):
    return run_with_pairs(Field(levels, log, program, facts), ())


def counter(levels, log, program, facts, claim):
    field = Field(levels, log, program, facts)
    for denial in denials(program, claim):
        run = run_with_pairs(field, denial)
        if run is not None:
            return run
    return None


def ways(levels, log, program, facts):
    field = Field(levels, log, program, facts)
    forms = choice_letter_forms(field)
    found, begun = {}, [()]
    while begun:
        begin = begun.pop()
        letters = some_letters(field, way_pairs(forms, begin))
        if letters is not None:
            way = tuple([form_at(form, letters)[0] >= 0 for form in forms])
            found[way] = True
            begun.extend([way[:at] + (not way[at],) for at in range(len(begin), len(way))])
    return tuple(sorted(found))


def choice_letter_forms(field):
    """For each choice the FORM of the letters that is at least 0 exactly if it takes cell a."""
    many = len(field.forms)
    return [field.letter_form(choice_form(step, many)) for step in field.program[1] if step[0] in CHOICES]


def way_pairs(forms, way):
    """The pairs of the letters that say that a WAY begins with these things."""
    return tuple([(form, False) if first else (turned(form), True) for form, first in zip(forms, way)])


def trees(levels, log, program, facts, claim):
    return _trees_of(Field(levels, log, program, facts), claim)


def _trees_of(field, claim):
    """A TREE for each denial of a CLAIM, None if there is a run for one of them."""
    found = []
    for denial in denials(field.program, claim):
        word, tree = searched(field, denial)
        if word == "run":
            return None
        found.append(tree)
    return tuple(found)


def leans_on(levels, log, program, facts, claim):
    question = (levels, tupled(log), program, tupled(facts), claim)
    rows, pairs = list(range(len(log))), list(range(len(facts)))
    needed = _needed(question, rows, pairs)
    if needed is None:
        raise CanNot()
    for number in range(len(log)):
        others = [other for other in rows if other != number]
        tried = _needed(question, others, pairs) if number in needed[0] else needed
        rows, needed = (rows, needed) if tried is None else (others, tried)
    for number in range(len(facts)):
        others = [other for other in pairs if other != number]
        tried = _needed(question, rows, others) if number in needed[1] else needed
        pairs, needed = (pairs, needed) if tried is None else (others, tried)
    return (tuple(rows), tuple(pairs))


def _needed(question, rows, pairs):
    """Which of these ROWS and pairs of facts the TREES for a CLAIM use, two dicts; None if it does not hold by them."""
    levels, log, program, facts, claim = question
    field = Field(levels, [log[number] for number in rows], program, [facts[number] for number in pairs])
    found = _trees_of(field, claim)
    if found is None:
        return None
    used_rows, used_pairs, stack = {}, {}, list(found)
    while stack:
        tree = stack.pop()
        if tree[0] == "cases":
            stack.extend(list(tree[2]))
            for number in field.conditions[tree[1]][0]:
                used_rows[rows[number]] = True
        elif tree[0] == "closed":
            for number, weight in zip(pairs, tree[1]):
                if weight[0]:
                    used_pairs[number] = True
        else:
            used_rows = {number: True for number in rows}
    return (used_rows, used_pairs)
