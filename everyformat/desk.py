"""A desk that answers in lines.

All of a request is read before anything is done, so one that is refused has changed nothing.
"""

from everyformat.alike import is_alike
from everyformat.board import Board
from everyformat.decide import claim_status
from everyformat.drift import greatest_drift
from everyformat.errors import BadLine, CanNot, NoPlace, NothingDone, TooMuch, Unfit
from everyformat.lines import DEPTH, Reader, depth_of, level_by, x_by
from everyformat.machine import run_exact, run_in
from everyformat.programs import size_of_program
from everyformat.ratios import ratio_text
from everyformat.requested import claim_of, requests_in
from everyformat.texts import (
    chain_by, levels_by, log_by, program_by, text_of_chain, text_of_log, text_of_program,
)


class Desk:
    """LEVELS, a PROGRAM, its facts, and Boards by HANDS."""

    def __init__(self):
        self.begin((("low", None),))

    def begin(self, levels):
        self.levels = levels
        self.program = ((), ())
        self.facts = ()
        self.boards = {}

    def board(self, hand):
        if hand not in self.boards:
            self.boards[hand] = Board(self.levels, hand)
        return self.boards[hand]

    def row(self, text):
        return log_by(self.levels, text)[0]

    def level(self, text):
        found = level_by(text, len(self.levels))
        if found is None:
            raise BadLine(1)
        return found

    def worths(self, words):
        """The FRACTIONS that words denote, and whether they are as many as first cells."""
        found = [_fraction_by(word) for word in words]
        return (found, len(found) == len(self.program[0]))


def _fraction_by(text):
    found = x_by(text)
    if found is None:
        raise BadLine(1)
    return found


def form_by(text, many):
    if depth_of(text) > DEPTH:
        raise BadLine(1)
    reader = Reader((), 1, text, {f"x{cell}": cell for cell in range(many)}, [], many)
    fixed, factors, _ = reader.read_sum()
    if reader.steps or reader.at < len(text):
        raise BadLine(1)
    return reader.form_of(fixed, factors)


def entry_text(entry):
    hand, number = entry
    return f"{hand} {number}"


def stretches_text(stretches):
    return " ".join([_stretch_text(stretch) for stretch in stretches]) or "-"


def _stretch_text(stretch):
    low, low_in, high, high_in = stretch
    begin, end = "[" if low_in else "(", "]" if high_in else ")"
    ends = _joined([".." if x is None else ratio_text(x) for x in (low, high)])
    return f"{begin}{ends}{end}"


def _joined(texts):
    return ", ".join(texts) or "-"


def _truth_text(truth):
    return "yes" if truth else "no"


def _entries_text(entries):
    return "none" if entries is None else _joined([entry_text(entry) for entry in entries])


def _entry_of(parts):
    return (parts[2], int(parts[3]))


def _take_levels(held, parts, inner):
    held.begin(levels_by(inner))
    return "done"


def _take_program(held, parts, inner):
    held.program = program_by(held.levels, inner)
    held.facts = ()
    return "done"


def _take_fact(held, parts, inner):
    form = form_by(parts[1], len(held.program[0]))
    held.facts = held.facts + ((form, parts[0] == "strict"),)
    return "done"


def _note(held, parts, inner):
    return entry_text(held.board(parts[1]).note(held.row(parts[2])))


def _strike(held, parts, inner):
    held.board(parts[1]).strike(_entry_of(parts))
    return "done"


def _restore(held, parts, inner):
    held.board(parts[1]).restore(_entry_of(parts))
    return "done"


def _undo(held, parts, inner):
    held.board(parts[1]).undo()
    return "done"


def _hear(held, parts, inner):
    return str(held.board(parts[1]).hear(held.board(parts[2])))


def _log(held, parts, inner):
    return text_of_log(held.board(parts[1]).log()) or "-"


def _chain(held, parts, inner):
    return text_of_chain(held.board(parts[1]).chain())


def _entries(held, parts, inner):
    return _entries_text(held.board(parts[1]).entries())


def _standing(held, parts, inner):
    return _entries_text(held.board(parts[1]).standing())


def _hands(held, parts, inner):
    return _joined(held.board(parts[1]).hands())


def _turn(held, parts, inner):
    return str(held.board(parts[1]).turn(_entry_of(parts)))


def _possible(held, parts, inner):
    return _truth_text(held.board(parts[1]).is_possible())


def _behind(held, parts, inner):
    return _truth_text(held.board(parts[1]).is_behind(held.board(parts[2])))


def _agree(held, parts, inner):
    return _truth_text(held.board(parts[1]).agree(parts[2:]))


def _clash(held, parts, inner):
    return _entries_text(held.board(parts[1]).clash())


def _rift(held, parts, inner):
    rift = held.board(parts[1]).rift()
    return "none" if rift is None else _joined(rift)


def _fewest(held, parts, inner):
    return _entries_text(held.board(parts[1]).fewest_out())


def _member(held, parts, inner):
    return held.board(parts[1]).member_status(held.level(parts[2]), _fraction_by(parts[3]))


def _results(held, parts, inner):
    level, point = held.level(parts[2]), _fraction_by(parts[4])
    return stretches_text(held.board(parts[1]).results(level, parts[3], point))


def _status(held, parts, inner):
    return held.board(parts[1]).row_status(held.row(parts[2]))


def _claim(held, parts, inner):
    word, text = claim_of(parts[2])
    claim = (word, form_by(text, size_of_program(held.program)))
    return claim_status(held.levels, held.board(parts[1]).log(), held.program, held.facts, claim)


def _drift(held, parts, inner):
    log = held.board(parts[1]).log()
    found = greatest_drift(held.levels, log, held.program, held.facts, int(parts[2]))
    if found is None:
        return "none"
    worth = ratio_text(found[0])
    return f"{worth} reached" if found[1] else f"{worth} open"


def _exact(held, parts, inner):
    worths, is_fit = held.worths(parts[1:])
    if not is_fit:
        raise Unfit()
    return _joined([ratio_text(x) for x in run_exact(held.program, worths)])


def _play(held, parts, inner):
    worths, is_fit = held.worths(parts[1:])
    chain = chain_by(held.levels, inner)
    if not is_fit:
        raise Unfit()
    return _joined([ratio_text(x) for x in run_in(held.levels, chain, held.program, worths)])


def _alike(held, parts, inner):
    other = program_by(held.levels, inner)
    if size_of_program(held.program) == 0 or size_of_program(other) == 0:
        raise Unfit()
    return _truth_text(is_alike(held.levels, held.board(parts[1]).log(), held.program, other, held.facts))


def _text(held, parts, inner):
    return text_of_program(held.program) or "-"


ACTIONS = {
    "levels": _take_levels, "program": _take_program, "fact": _take_fact, "strict": _take_fact, "note": _note,
    "strike": _strike, "restore": _restore, "undo": _undo, "hear": _hear, "log": _log, "chain": _chain,
    "entries": _entries, "standing": _standing, "hands": _hands, "turn": _turn, "possible": _possible,
    "behind": _behind, "agree": _agree, "clash": _clash, "rift": _rift, "fewest": _fewest, "member": _member,
    "results": _results, "status": _status, "claim": _claim, "drift": _drift, "exact": _exact, "play": _play,
    "alike": _alike, "text": _text,
}


def _replied(held, parts, inner):
    action = ACTIONS[parts[0]]
    try:
        return action(held, parts, inner)
    except BadLine:
        return "refused BadLine"
    except CanNot:
        return "refused CanNot"
    except NoPlace:
        return "refused NoPlace"
    except NothingDone:
        return "refused NothingDone"
    except TooMuch:
        return "refused TooMuch"
    except Unfit:
        return "refused Unfit"


def desk(text):
    held = Desk()
    return [_replied(held, parts, inner) for parts, inner in requests_in(text)]


def is_request(thing):
    if not isinstance(thing, str):
        return False
    try:
        return len(requests_in(thing)) == 1
    except BadLine:
        return False
