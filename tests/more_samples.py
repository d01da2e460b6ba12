"""Further calls of functions, as in samples.py: for PROGRAMS that are compared, WORDS, LOOPS, PAPERS and the desk."""

from everyformat import alike, desk, ends, far, loops, papers, passings, rewrite, trees
from tests.samples import ASKED, BACK, CHAIN, FACTS, HALF, NONE, ONE, PROGRAM, SHORT, TWO, WIDE, WIDE_LOG

LOOSE = ((None, 0), (("exact", (ONE, (NONE, NONE))), ("round", 1, "near", (NONE, (HALF, HALF, NONE))), ("least", 3, 1)))
TIGHT = ((None, 0), (("round", 1, "near", (NONE, (HALF, HALF))), ("least", 1, 2)))
ENDS = ((0, 0), (("round", 0, "down", (NONE, (BACK, ONE))), ("pick", (NONE, (NONE, NONE, ONE)), 1, 0)))
PLAIN = ((None,), (("round", 0, "down", (NONE, (ONE,))),))
EXACT = ("exact", (NONE, (HALF, HALF)))
REWRITE_SAMPLES = [
    (rewrite.lean, {"program": LOOSE}, []),
    (rewrite.lean, {"program": ((0,), ())}, []),
    (rewrite.with_step, {"program": PROGRAM, "place": 3, "step": EXACT + ()}, []),
    (rewrite.plainly_at_most, {"levels": TWO, "program": LOOSE, "one": 0, "two": 0}, []),
    (rewrite.plainly_at_most, {"levels": TWO, "program": PROGRAM, "one": 2, "two": 1}, []),
    (rewrite.rewritten, {"levels": TWO, "program": PROGRAM}, []),
    (rewrite.rewritten, {"levels": TWO, "program": LOOSE}, []),
    (rewrite.rewritten, {"levels": TWO, "program": ((0, 1), (("least", 0, 0),))}, []),
]
ALIKE_SAMPLES = [
    (alike.beside, {"program": LOOSE, "other": SHORT}, []),
    (alike.is_never_above, {**ASKED, "one": 0, "two": 1}, []),
    (alike.is_alike, {"levels": WIDE, "log": WIDE_LOG, "program": LOOSE, "other": TIGHT, "facts": FACTS}, []),
    (alike.is_alike, {"levels": WIDE, "log": (), "program": SHORT, "other": TIGHT, "facts": FACTS}, []),
    (alike.parted, {"levels": WIDE, "log": WIDE_LOG, "program": SHORT, "other": TIGHT, "facts": FACTS}, []),
    (alike.parted, {"levels": WIDE, "log": WIDE_LOG, "program": LOOSE, "other": TIGHT, "facts": FACTS}, []),
    (alike.is_let, {**ASKED, "place": 2, "step": EXACT}, []),
    (alike.needless, ASKED, []),
]
END_SAMPLES = [
    (ends.exact_copy, {"program": PROGRAM}, []),
    (ends.two_ends, {"levels": TWO, "program": PROGRAM}, []),
    (ends.is_held, {"levels": WIDE, "log": (), "program": PLAIN, "other": ends.two_ends(WIDE, PLAIN), "facts": ()}, []),
    (ends.unheld, {"levels": WIDE, "log": (), "program": PLAIN, "other": ((None,), PLAIN[1] + (("least", 0, 1),)),
                   "facts": ()}, []),
    (ends.ends_width, {"levels": WIDE, "log": (), "program": PLAIN, "facts": (((ONE, (BACK,)), False), ((ONE, (ONE,)), False))}, []),
    (ends.ends_width, {"levels": (("low", None),), "log": (), "program": PLAIN, "facts": ()}, []),
    (ends.choice_status, {"levels": WIDE, "log": (), "program": ENDS, "facts": (), "number": 0}, []),
    (ends.sure_choices, {"levels": WIDE, "log": (), "program": ENDS, "facts": ()}, []),
    (ends.sure_choices, {"levels": WIDE, "log": (), "program": PLAIN, "facts": ()}, []),
    (ends.wrong_choice, {"levels": WIDE, "log": (), "program": ENDS, "facts": (), "number": 0}, []),
]
WORD, OTHER = ((1, "near"), (0, "down")), ((1, "down"), (1, "up"), (0, "near"))
HANDED = {"levels": TWO, "chain": CHAIN, "word": WORD, "point": (-7, 2)}
PASSING_SAMPLES = [
    (passings.is_word, {"levels": TWO, "thing": WORD}, ["thing"]),
    (passings.reduced, {"word": OTHER}, []),
    (passings.is_same, {"word": OTHER, "other": WORD}, []),
    (passings.all_reduced, {"many": 2}, []),
    (passings.turned_word, {"word": OTHER}, []),
    (passings.passed_on, HANDED, []),
    (passings.passed_on, {**HANDED, "word": ()}, []),
    (passings.passing_log, HANDED, []),
    (passings.never_above, {"levels": TWO, "word": WORD, "other": OTHER}, []),
    (passings.above_chain, {"levels": TWO, "word": OTHER, "other": WORD}, []),
    (passings.above_chain, {"levels": TWO, "word": ((0, "down"),), "other": ((0, "up"),)}, []),
    (passings.parting_chain, {"levels": TWO, "word": ((0, "down"),), "other": ((0, "up"),)}, []),
    (passings.parting_chain, {"levels": TWO, "word": WORD, "other": WORD}, []),
]
LOOP = ("near", (-3, 4), HALF)
LOOPED = {"levels": TWO, "chain": CHAIN, "loop": LOOP, "start": (-3, 1), "rounds": 6}
LOOP_SAMPLES = [
    (loops.is_loop, {"thing": LOOP}, ["thing"]),
    (loops.still_point, {"loop": LOOP}, []),
    (loops.one_round, {"levels": TWO, "chain": CHAIN, "loop": LOOP, "y": ONE}, []),
    (loops.loop_run, LOOPED, []),
    (loops.loop_run, {**LOOPED, "rounds": 0}, []),
    (loops.loop_log, LOOPED, []),
    (loops.ring_of, LOOPED, []),
    (loops.ring_of, {**LOOPED, "rounds": 0}, []),
    (loops.never_runs_off, {"many": 2, "loop": LOOP}, []),
    (loops.never_runs_off, {"many": 1, "loop": ("down", ONE, NONE)}, []),
]
FAR_SAMPLES = [
    (far.size_row, {"many": 2, "rate": (-1, 2), "length": 5}, []),
    (far.size_row, {"many": 2, "rate": (-1, 2), "length": 1}, []),
    (far.last_outward, {"many": 1, "rate": (-3, 4)}, []),
    (far.greatest_size, {"many": 1, "rate": (-3, 4)}, []),
    (far.farthest_value, {"many": 1, "rate": (-3, 4)}, []),
    (far.is_reached, {"levels": TWO, "rate": (1, 3)}, []),
    (far.near_chain, {"many": 2, "loop": ("near", (-1, 2), (3, 1)), "hair": (1, 10)}, []),
    (far.off_chain, {"many": 2, "loop": ("near", (-7, 8), (3, 1)), "rounds": 4}, []),
    (far.off_chain, {"many": 2, "loop": ("down", ONE, (3, 1)), "rounds": 4}, []),
    (far.off_chain, {"many": 2, "loop": ("up", (-3, 2), (3, 1)), "rounds": 4}, []),
]
SURE = ("at least", (NONE, (ONE, NONE, NONE, NONE, BACK)))
TREES = (("cases", 1, (("closed", (NONE, NONE, ONE, ONE, NONE)), ("closed", (NONE, NONE, ONE, ONE, NONE)))),)
GONE = ((0, "down", (5, 1), NONE), (0, "member", (3, 1), (3, 1)))
STATEMENTS = [
    ("possible", WIDE_LOG), ("impossible", GONE), ("can have", WIDE_LOG, ((0, ONE),), ((1, (2, 1)),)),
    ("cannot have", WIDE_LOG, (), ((1, NONE),)), ("sure", WIDE_LOG, SHORT, FACTS, SURE), ("not sure", (), SHORT, FACTS, ("above", SURE[1])),
    ("drift", (), ((0,), ()), (), 0, NONE), ("more drift", (), SHORT, FACTS, 2, HALF), ("alike", (), TIGHT, TIGHT, FACTS),
    ("unlike", (), PLAIN, ((None,), ()), ()), ("same", WORD, WORD), ("parted", WORD, OTHER),
]
PAPER_SAMPLES = [
    (trees.leaves, {"trees": TREES}, []),
    (trees.trimmed, {**ASKED, "trees": papers.paper(WIDE, STATEMENTS[4])}, []),
    (trees.trimmed, {"levels": WIDE, "log": (), "program": ((None,), (("least", 0, 0),)), "facts": (),
                     "trees": (("cases", 0, (("closed", (ONE, NONE, ONE, NONE)), ("closed", (ONE, NONE, NONE, NONE)))),)}, []),
]
for statement in STATEMENTS:
    asked, shown = {"levels": WIDE, "statement": statement}, papers.paper(WIDE, statement)
    PAPER_SAMPLES += [
        (papers.is_statement, {"levels": WIDE, "thing": statement}, ["thing"]), (papers.denied, {"statement": statement}, []),
        (papers.stands, asked, []), (papers.paper, asked, []), (papers.is_paper, {**asked, "thing": shown}, ["thing"]),
        (papers.told_by, {**asked, "thing": None}, []),
    ]
DESK_SAMPLES = [
    (desk.desk, {"text": "note a 0 down 1 0\nlog a"}, []),
    (desk.desk, {"text": ""}, []),
    (desk.is_request, {"thing": "levels\n low"}, ["thing"]),
    (desk.stretches_text, {"stretches": ((NONE, True, ONE, False), ((3, 1), False, None, False))}, []),
    (desk.stretches_text, {"stretches": ()}, []),
    (desk.entry_text, {"entry": ("ab", 7)}, []),
    (desk.form_by, {"text": "x1 - 2*x0", "many": 2}, []),
]
MORE_SAMPLES = REWRITE_SAMPLES + ALIKE_SAMPLES + END_SAMPLES + PASSING_SAMPLES + LOOP_SAMPLES + FAR_SAMPLES + PAPER_SAMPLES + DESK_SAMPLES
