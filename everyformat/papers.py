"""STATEMENTS, and PAPERS that show them: one judge for all of them."""

from everyformat.build import build_chain
from everyformat.cases import check_bearable
from everyformat.decide import counter, trees
from everyformat.errors import CanNot
from everyformat.fitting import chain_for
from everyformat.passings import is_word, parting_chain, reduced
from everyformat.possible import fault, is_possible, least_lot
from everyformat.programs import is_program, size_of_program
from everyformat.ratios import is_fraction
from everyformat.rows import is_log
from everyformat.shapes import is_place, is_tuple_of, is_word_of, tupled
from everyformat.shown import (
    asked_of, is_lot_paper, is_run_paper, is_shown_chain, is_wish_paper, is_word_paper, parts_chain, proves,
)
from everyformat.straight import is_form
from everyformat.systems import is_system
from everyformat.told import why_not

DENIED = {
    "possible": "impossible", "can have": "cannot have", "sure": "not sure", "drift": "more drift", "alike": "unlike",
    "same": "parted", "impossible": "possible", "cannot have": "can have", "not sure": "sure", "more drift": "drift",
    "unlike": "alike", "parted": "same",
}
LENGTHS = {
    "possible": 2, "impossible": 2, "can have": 4, "cannot have": 4, "sure": 5, "not sure": 5, "drift": 6,
    "more drift": 6, "alike": 5, "unlike": 5, "same": 3, "parted": 3,
}
CLAIM_WORDS = ("at least", "above", "equal")


def is_statement(levels, thing):
    if not isinstance(thing, tuple) or not thing or not isinstance(thing[0], str) or thing[0] not in LENGTHS:
        return False
    word = thing[0]
    if len(thing) != LENGTHS[word]:
        return False
    if word in ("same", "parted"):
        return is_word(levels, thing[1]) and is_word(levels, thing[2])
    if not is_log(levels, thing[1]):
        return False
    if word in ("possible", "impossible"):
        return True
    if word in ("can have", "cannot have"):
        return all([isinstance(wishes, tuple) for wishes in thing[2:]]) and all(
            [_is_wish(levels, wish) for wishes in thing[2:] for wish in wishes])
    return is_program(levels, thing[2]) and _are_runs_asked(levels, thing)


def _is_wish(levels, thing):
    return is_tuple_of(thing, 2) and is_place(thing[0], len(levels)) and is_fraction(thing[1])


def _are_runs_asked(levels, thing):
    """Whether what stands behind the PROGRAM of a STATEMENT is as described."""
    word, program, many = thing[0], thing[2], size_of_program(thing[2])
    if word in ("alike", "unlike"):
        other = thing[3]
        if not is_program(levels, other) or program[0] != other[0] or many == 0 or size_of_program(other) == 0:
            return False
        return is_system(thing[4], len(program[0]))
    if not is_system(thing[3], len(program[0])):
        return False
    if word in ("sure", "not sure"):
        return is_tuple_of(thing[4], 2) and is_word_of(thing[4][0], CLAIM_WORDS) and is_form(thing[4][1], many)
    return is_place(thing[4], many) and is_fraction(thing[5]) and thing[5][0] >= 0


def denied(statement):
    statement = tupled(statement)
    return (DENIED[statement[0]],) + statement[1:]


def stands(levels, statement):
    return _found(levels, statement) is not None


def paper(levels, statement):
    found = _found(levels, statement)
    if found is None:
        raise CanNot()
    return found


def _found(levels, statement):
    """A PAPER for a STATEMENT, None if it does not stand."""
    levels, statement = tupled(levels), tupled(statement)
    word = statement[0]
    if word in ("possible", "impossible"):
        return _found_for_log(levels, word, statement[1])
    if word in ("can have", "cannot have"):
        return _found_for_wishes(levels, statement)
    if word == "same":
        return reduced(statement[1]) if reduced(statement[1]) == reduced(statement[2]) else None
    if word == "parted":
        return parting_chain(levels, statement[1], statement[2])
    return _found_for_runs(levels, statement)


def _found_for_log(levels, word, log):
    if is_possible(levels, log):
        return build_chain(levels, log) if word == "possible" else None
    if word == "possible":
        return None
    lot = least_lot(levels, log)
    return (lot, fault(levels, [log[number] for number in lot]))


def _found_for_wishes(levels, statement):
    word, log, members, others = statement
    if not is_possible(levels, log):
        return ("fault", fault(levels, log)) if word == "cannot have" else None
    why = why_not(levels, log, members, others)
    if word == "cannot have":
        return why
    return chain_for(levels, log, members, others) if why is None else None


def _found_for_runs(levels, statement):
    log, program, facts, claims = asked_of(statement)
    check_bearable(levels, program)
    if statement[0] in ("sure", "drift", "alike"):
        proofs = [trees(levels, log, program, facts, claim) for claim in claims]
        if None in proofs:
            return None
        return tuple(proofs) if statement[0] == "drift" else proofs[0]
    for claim in claims:
        run = counter(levels, log, program, facts, claim)
        if run is not None:
            return run
    return None


def is_paper(levels, statement, thing):
    levels, statement = tupled(levels), tupled(statement)
    word = statement[0]
    if word == "possible":
        return is_shown_chain(levels, statement[1], thing)
    if word == "impossible":
        return is_lot_paper(levels, statement[1], thing)
    if word in ("can have", "cannot have"):
        return is_wish_paper(levels, statement, thing)
    if word == "same":
        return is_word_paper(levels, statement, thing)
    if word == "parted":
        return parts_chain(levels, statement, thing)
    log, program, facts, claims = asked_of(statement)
    check_bearable(levels, program)
    question = (levels, log, program, facts)
    if word in ("not sure", "more drift", "unlike"):
        return is_run_paper(question, claims, thing)
    if word == "drift":
        return is_tuple_of(thing, 2) and proves(question, claims[0], thing[0]) and proves(question, claims[1], thing[1])
    return proves(question, claims[0], thing)


def told_by(levels, statement, thing):
    if is_paper(levels, statement, thing):
        return "yes"
    return "no" if is_paper(levels, denied(statement), thing) else None
