"""What shows STATEMENTS: whether things are PAPERS, each kind by itself, and what STATEMENTS ask of runs.

A question is a tuple: LEVELS, a LOG, a PROGRAM and facts.
"""

from everyformat.alike import apart_form, beside
from everyformat.cases import conditions, denials, many_letters
from everyformat.chains import is_chain, is_member
from everyformat.drift import exact_twin
from everyformat.gaps import keeps_gaps, shows
from everyformat.machine import run_in
from everyformat.passings import is_word, passed_on, reduced
from everyformat.possible import is_fault, lot_bound
from everyformat.programs import size_of_program
from everyformat.ratios import is_fraction, sign_of
from everyformat.rows import told
from everyformat.shapes import is_place, is_set_below, is_tuple_of, is_word_of
from everyformat.straight import constant_form, form_at, longer_form, minus_forms, plus_forms, single_form
from everyformat.systems import holds_at, is_closing
from everyformat.told import wide_bars
from everyformat.zones import bars, in_stretches, is_stretch, lets


def asked_of(statement):
    """A tuple: the LOG, the PROGRAM and the facts of the runs that a STATEMENT asks for, and its CLAIMS."""
    word, log, program = statement[:3]
    if word in ("sure", "not sure"):
        return (log, program, statement[3], (statement[4],))
    if word in ("alike", "unlike"):
        other, facts = statement[3:]
        return (log, beside(program, other), facts, (("equal", apart_form(program, other)),))
    facts, cell, worth = statement[3:]
    twin = exact_twin(program)
    many = size_of_program(twin)
    exact = cell if cell < len(program[0]) else cell + len(program[1])
    drift, limit = minus_forms(single_form(cell, many), single_form(exact, many)), constant_form(worth, many)
    return (log, twin, facts, (("at least", minus_forms(limit, drift)), ("at least", plus_forms(limit, drift))))


def is_shown_chain(levels, log, thing):
    """Whether thing is a CHAIN that shows log."""
    return is_chain(levels, thing) and shows(levels, thing, log)


def is_lot_paper(levels, log, thing):
    """Whether thing is a pair of a lot and of a fault of the LOG of this lot."""
    if not is_tuple_of(thing, 2) or not is_set_below(thing[0], len(log)) or len(thing[0]) > lot_bound(levels):
        return False
    return is_fault(levels, tuple([log[number] for number in thing[0]]), thing[1])


def is_wish_paper(levels, statement, thing):
    """Whether thing shows that these WISHES can be had, or that they cannot."""
    word, log, members, others = statement
    if word == "cannot have":
        return _is_hindrance(levels, log, (members, others), thing)
    if not is_shown_chain(levels, log, thing):
        return False
    if not all([is_member(levels, thing, level, x) for level, x in members]):
        return False
    return not any([is_member(levels, thing, level, x) for level, x in others])


def _is_hindrance(levels, log, wishes, thing):
    members, others = wishes
    if is_tuple_of(thing, 3):
        if not is_word_of(thing[0], ("long",)) or not is_place(thing[1], len(levels)) or not is_stretch(thing[2]):
            return False
        return thing[2] in wide_bars(levels, log, others, thing[1]) and not lets(levels[thing[1]][1], thing[2])
    if not is_tuple_of(thing, 2) or not is_word_of(thing[0], ("fault", "shut", "told")):
        return False
    if thing[0] == "fault":
        return is_fault(levels, log, thing[1])
    if not is_place(thing[1], len(members if thing[0] == "shut" else others)):
        return False
    if thing[0] == "shut":
        level, x = members[thing[1]]
        return in_stretches(bars(levels, log, level), x)
    level, x = others[thing[1]]
    return x in told(levels, log, level) or any([narrow <= level and x == y for narrow, y in members])


def is_word_paper(levels, statement, thing):
    """Whether thing is the REDUCED WORD that both WORDS are the same as."""
    return is_word(levels, thing) and thing == reduced(statement[1]) and thing == reduced(statement[2])


def parts_chain(levels, statement, thing):
    """Whether thing is a pair of a CHAIN that keeps the GAPS and of a FRACTION that both WORDS pass on apart."""
    if not is_tuple_of(thing, 2) or not is_chain(levels, thing[0]) or not is_fraction(thing[1]):
        return False
    results = [passed_on(levels, thing[0], word, thing[1]) for word in statement[1:]]
    return results[0] != results[1] and keeps_gaps(levels, thing[0])


def is_run_paper(question, claims, thing):
    """Whether thing is a pair of a CHAIN and WORTHS of a run in which not all CLAIMS hold."""
    levels, log, program, facts = question
    if not is_tuple_of(thing, 2) or not is_tuple_of(thing[1], len(program[0])):
        return False
    chain, worths = thing
    if not all([is_fraction(worth) for worth in worths]) or not is_shown_chain(levels, log, chain):
        return False
    for level, worth in zip(program[0], worths):
        if level is not None and not is_member(levels, chain, level, worth):
            return False
    if not holds_at(facts, worths):
        return False
    cells = run_in(levels, chain, program, worths)
    return not all([_holds(claim, cells) for claim in claims])


def _holds(claim, cells):
    sign = sign_of(form_at(claim[1], cells))
    if claim[0] == "equal":
        return sign == 0
    return sign > 0 or (sign == 0 and claim[0] == "at least")


def proves(question, claim, thing):
    """Whether thing is a tuple of TREES, one for each denial of a CLAIM."""
    levels, log, program, facts = question
    asked, many = denials(program, claim), many_letters(program)
    if not is_tuple_of(thing, len(asked)):
        return False
    known = conditions(levels, log, program)
    system = tuple([(longer_form(form, many), strict) for form, strict in facts])
    return all([_closes(question, known, system + denial, tree) for denial, tree in zip(asked, thing)])


def _closes(question, known, system, thing):
    """Whether thing is a TREE for a SYSTEM of the letters."""
    if is_tuple_of(thing, 2) and is_word_of(thing[0], ("closed",)):
        return is_closing(system, thing[1])
    if is_tuple_of(thing, 2) and is_word_of(thing[0], ("fault",)):
        return is_fault(question[0], question[1], thing[1])
    if not is_tuple_of(thing, 3) or not is_word_of(thing[0], ("cases",)):
        return False
    if not is_place(thing[1], len(known)) or not is_tuple_of(thing[2], len(known[thing[1]])):
        return False
    return all([_closes(question, known, system + case, part) for case, part in zip(known[thing[1]], thing[2])])
