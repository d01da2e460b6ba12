"""A call of each function, for tests of what is so of all of them.

A sample is a triple: a function, its arguments by name, in order, and the names of those that are a `thing`.
"""

from everyformat import (
    build, cases, chains, decide, drift, gaps, leastgap, machine, possible, programs, ratios, results, rows, straight,
    systems, texts, told, zones,
)

NONE, ONE, BACK, HALF = (0, 1), (1, 1), (-1, 1), (1, 2)
FORM = ((1, 2), ((2, 1), (-1, 3)))
X, Y = (NONE, (ONE, NONE)), (NONE, (NONE, ONE))
THREE = ((X, False), ((NONE, (BACK, ONE)), True), (((4, 1), (BACK, BACK)), False))
MORE = THREE + ((((-2, 1), (ONE, NONE)), False),)
FLAT = ((X, False), ((NONE, (BACK, NONE)), False), (Y, True))
STRETCHES = ((NONE, True, ONE, False), (None, False, (3, 1), True))

RATIO_SAMPLES = [
    (ratios.is_fraction, {"thing": (3, 2)}, ["thing"]),
    (ratios.fraction, {"top": 6, "bottom": -4}, []),
    (ratios.whole, {"number": -7}, []),
    (ratios.plus, {"x": HALF, "y": (1, 3)}, []),
    (ratios.minus, {"x": HALF, "y": (1, 3)}, []),
    (ratios.times, {"x": HALF, "y": (2, 3)}, []),
    (ratios.over, {"x": HALF, "y": (-3, 1)}, []),
    (ratios.power_of, {"x": (-2, 3), "many": -2}, []),
    (ratios.power_of, {"x": (-2, 3), "many": 1}, []),
    (ratios.power_of, {"x": (-2, 3), "many": 0}, []),
    (ratios.is_less, {"x": (1, 3), "y": HALF}, []),
    (ratios.sign_of, {"x": (-3, 2)}, []),
    (ratios.size_of, {"x": (-3, 2)}, []),
    (ratios.floor_of, {"x": (-3, 2)}, []),
    (ratios.ceiling_of, {"x": (-3, 2)}, []),
    (ratios.middle, {"x": NONE, "y": (-3, 2)}, []),
    (ratios.in_order, {"fractions": (HALF, (1, 3), BACK, HALF)}, []),
    (ratios.in_order, {"fractions": ()}, []),
    (ratios.simplest_between, {"low": (1, 3), "high": (2, 5)}, []),
    (ratios.simplest_between, {"low": (-5, 2), "high": BACK}, []),
    (ratios.ratio_text, {"x": (-3, 2)}, []),
    (ratios.ratio_by, {"text": "-12/5"}, []),
]
STRAIGHT_SAMPLES = [
    (straight.is_form, {"thing": FORM, "many": 2}, ["thing"]),
    (straight.form_at, {"form": FORM, "worths": ((3, 1), ONE)}, []),
    (straight.form_at, {"form": (HALF, ()), "worths": ()}, []),
    (straight.constant_form, {"x": HALF, "many": 3}, []),
    (straight.single_form, {"place": 1, "many": 3}, []),
    (straight.plus_forms, {"form": FORM, "other": Y}, []),
    (straight.scaled_form, {"form": FORM, "x": (-2, 1)}, []),
    (straight.longer_form, {"form": FORM, "many": 4}, []),
    (straight.longer_form, {"form": FORM, "many": 2}, []),
    (straight.put_in, {"form": FORM, "forms": (Y, ((3, 1), (NONE, NONE))), "many": 2}, []),
    (straight.put_in, {"form": (HALF, (NONE,)), "forms": (Y,), "many": 2}, []),
    (straight.put_in, {"form": (HALF, ()), "forms": (), "many": 2}, []),
    (straight.named_in, {"form": FORM}, []),
    (straight.solved_for, {"form": FORM, "place": 1}, []),
    (straight.span_of, {"form": FORM, "stretches": STRETCHES}, []),
    (straight.span_of, {"form": (HALF, ()), "stretches": ()}, []),
    (straight.span_of, {"form": (HALF, (NONE, NONE)), "stretches": STRETCHES}, []),
]
SYSTEM_SAMPLES = [
    (systems.is_system, {"thing": THREE, "many": 2}, ["thing"]),
    (systems.holds_at, {"system": THREE, "worths": (NONE, ONE)}, []),
    (systems.solve, {"system": THREE, "many": 2}, []),
    (systems.solve, {"system": MORE, "many": 2}, []),
    (systems.solve, {"system": (), "many": 2}, []),
    (systems.is_closing, {"system": MORE, "thing": (NONE, ONE, ONE, (2, 1))}, ["thing"]),
    (systems.closed_lot, {"system": MORE, "many": 2}, []),
    (systems.greatest, {"form": X, "system": THREE, "many": 2}, []),
    (systems.greatest, {"form": Y, "system": THREE, "many": 2}, []),
    (systems.greatest, {"form": Y, "system": THREE[:2], "many": 2}, []),
    (systems.greatest, {"form": Y, "system": MORE, "many": 2}, []),
    (systems.is_greatest, {
        "form": Y, "system": THREE, "thing": ("reached", (4, 1), (ONE, NONE, ONE), (NONE, (4, 1))),
    }, ["thing"]),
    (systems.is_greatest, {
        "form": X, "system": THREE,
        "thing": ("neared", (2, 1), (NONE, HALF, HALF), (NONE, ONE), ((2, 1), (2, 1))),
    }, ["thing"]),
    (systems.is_greatest, {
        "form": Y, "system": THREE[:2], "thing": ("endless", (NONE, ONE), (NONE, ONE)),
    }, ["thing"]),
    (systems.values_of, {"form": Y, "system": THREE, "many": 2}, []),
    (systems.follows, {"system": THREE, "form": Y, "strict": True, "many": 2}, []),
    (systems.tight, {"system": FLAT, "many": 2}, []),
    (systems.inner, {"system": FLAT, "many": 2}, []),
]

GAP = ((7, 1), NONE)
TWO = (("low", GAP), ("high", None))
LOG = ((0, "down", ONE, NONE), (1, "up", (8, 1), (10, 1)), (0, "near", (4, 1), (5, 1)))
BARS = ((NONE, False, ONE, True), ((3, 1), True, (5, 1), False))
OPEN = ((None, False, HALF, True), ((4, 1), False, None, False))
LEVEL = (("low", GAP),)
BAD = ((0, "down", (5, 1), NONE), (0, "member", (9, 1), (9, 1)), (0, "up", (5, 1), (8, 1)), (0, "up", (3, 1), (2, 1)))
ROW_SAMPLES = [
    (rows.is_gap, {"thing": GAP}, ["thing"]),
    (rows.is_levels, {"thing": TWO}, ["thing"]),
    (rows.is_row, {"levels": TWO, "thing": LOG[1]}, ["thing"]),
    (rows.is_log, {"levels": TWO, "thing": LOG}, ["thing"]),
    (rows.goes_right, {"row": LOG[0]}, []),
    (rows.told, {"levels": TWO, "log": LOG, "level": 1}, []),
    (rows.mirrored, {"levels": TWO, "log": LOG}, []),
]
ZONE_SAMPLES = [
    (zones.is_stretch, {"thing": BARS[0]}, ["thing"]),
    (zones.is_stretches, {"thing": BARS}, ["thing"]),
    (zones.in_stretches, {"stretches": BARS, "x": (4, 1)}, []),
    (zones.stretch_at, {"stretches": BARS, "x": (4, 1)}, []),
    (zones.stretch_at, {"stretches": BARS, "x": (2, 1)}, []),
    (zones.join_stretches, {"some": (BARS[1], OPEN[1], BARS[0], (NONE, True, NONE, True))}, []),
    (zones.join_stretches, {"some": ()}, []),
    (zones.meet_stretches, {"stretches": BARS, "others": OPEN}, []),
    (zones.rest_of, {"stretches": BARS}, []),
    (zones.rest_of, {"stretches": OPEN}, []),
    (zones.run_with, {"stretches": BARS, "stretch": (ONE, False, (2, 1), True)}, []),
    (zones.run_with, {"stretches": (), "stretch": OPEN[0]}, []),
    (zones.zone, {"levels": TWO, "row": LOG[0]}, []),
    (zones.zone, {"levels": TWO, "row": LOG[1]}, []),
    (zones.zone, {"levels": TWO, "row": LOG[2]}, []),
    (zones.zone, {"levels": TWO, "row": (1, "near", (5, 1), (4, 1))}, []),
    (zones.zone, {"levels": TWO, "row": (1, "member", (5, 1), (5, 1))}, []),
    (zones.bars, {"levels": TWO, "log": LOG, "level": 0}, []),
    (zones.is_free, {"levels": TWO, "log": LOG, "level": 0, "x": (3, 1)}, []),
    (zones.excess, {"gap": ((1, 1), HALF), "u": (-3, 1), "v": (2, 1)}, []),
    (zones.lets, {"gap": GAP, "stretch": (NONE, False, (7, 1), False)}, []),
]
POSSIBLE_SAMPLES = [
    (possible.fault, {"levels": LEVEL, "log": BAD}, []),
    (possible.fault, {"levels": LEVEL, "log": BAD[:3]}, []),
    (possible.fault, {"levels": LEVEL, "log": BAD[:2] + ((0, "member", ONE, ONE),)}, []),
    (possible.fault, {"levels": TWO, "log": LOG}, []),
    (possible.is_fault, {"levels": LEVEL, "log": BAD, "thing": ("way", 3)}, ["thing"]),
    (possible.is_fault, {
        "levels": LEVEL, "log": BAD[:3], "thing": ("long", 0, (NONE, False, (8, 1), False)),
    }, ["thing"]),
    (possible.is_possible, {"levels": LEVEL, "log": BAD}, []),
    (possible.is_possible_lot, {"levels": LEVEL, "log": BAD, "lot": (0, 1)}, []),
    (possible.possible_rows, {"levels": LEVEL, "log": BAD}, []),
    (possible.least_lot, {"levels": LEVEL, "log": BAD[:3]}, []),
    (possible.least_lot, {"levels": LEVEL, "log": BAD}, []),
    (possible.is_least_lot, {"levels": LEVEL, "log": BAD[:3], "thing": (0, 2)}, ["thing"]),
    (possible.key_rows, {"levels": LEVEL, "log": BAD[:3]}, []),
    (possible.next_possible, {"levels": LEVEL, "log": BAD[:1], "row": BAD[2]}, []),
    (possible.lot_bound, {"levels": TWO}, []),
    (possible.sharp_log, {"many": 3}, []),
]
CHAIN = (((6, 1), (4, 1)), ((((-3, 1), NONE, (2, 1)), (((5, 2), (11, 2), HALF),)), (((-7, 2),), ())))
CHAIN_SAMPLES = [
    (chains.is_chain, {"levels": TWO, "thing": CHAIN}, ["thing"]),
    (chains.is_member, {"levels": TWO, "chain": CHAIN, "level": 1, "x": (-7, 2)}, []),
    (chains.is_member, {"levels": TWO, "chain": CHAIN, "level": 0, "x": (5, 1)}, []),
    (chains.next_above, {"levels": TWO, "chain": CHAIN, "level": 0, "x": (11, 2)}, []),
    (chains.next_above, {"levels": TWO, "chain": CHAIN, "level": 0, "x": (-6, 1)}, []),
    (chains.next_above, {"levels": TWO, "chain": CHAIN, "level": 0, "x": (2, 1)}, []),
    (chains.next_above, {"levels": TWO, "chain": CHAIN, "level": 0, "x": (3, 1)}, []),
    (chains.next_below, {"levels": TWO, "chain": CHAIN, "level": 1, "x": (-3, 1)}, []),
    (chains.next_below, {"levels": TWO, "chain": CHAIN, "level": 1, "x": (-7, 2)}, []),
    (chains.next_below, {"levels": TWO, "chain": CHAIN, "level": 1, "x": (6, 1)}, []),
    (chains.count_between, {"levels": TWO, "chain": CHAIN, "level": 1, "low": (-10, 1), "high": (3, 1)}, []),
    (chains.mirrored_chain, {"levels": TWO, "chain": CHAIN}, []),
    (chains.holds, {"levels": TWO, "chain": CHAIN, "row": (0, "near", ONE, NONE)}, []),
    (chains.holds, {"levels": TWO, "chain": CHAIN, "row": (1, "member", (-7, 2), (-7, 2))}, []),
    (gaps.worst_gap, {"levels": TWO, "chain": CHAIN, "level": 0}, []),
    (gaps.worst_gap, {"levels": TWO, "chain": CHAIN, "level": 1}, []),
    (gaps.keeps_gaps, {"levels": TWO, "chain": CHAIN}, []),
    (gaps.shows, {"levels": TWO, "chain": CHAIN, "log": ((0, "near", ONE, NONE), (1, "up", (7, 1), (10, 1)))}, []),
]
for kind in ("down", "up", "near"):
    for point in ((-9, 1), (-8, 1), (-6, 1), (-5, 1), ONE, (2, 1), (9, 4), (5, 2), (11, 4), (11, 2), (6, 1), (8, 1)):
        named = {"levels": TWO, "chain": CHAIN, "level": 0, "kind": kind, "point": point}
        CHAIN_SAMPLES.append((chains.round_by, named, []))
NEAR_LOG = ((0, "near", ONE, NONE), (1, "down", (5, 1), (9, 2)))
NEAR_LEVELS = (("low", ((2, 1), HALF)), ("high", None))
FORMAT_SAMPLES = [
    (build.build_chain, {"levels": TWO, "log": LOG}, []),
    (build.build_chain, {"levels": TWO, "log": ()}, []),
    (build.chain_with, {"levels": TWO, "log": LOG, "level": 1, "x": (3, 1)}, []),
    (build.chain_without, {"levels": TWO, "log": LOG, "level": 0, "x": (20, 1)}, []),
    (build.parted_by, {"levels": NEAR_LEVELS, "log": NEAR_LOG, "level": 0, "x": (2, 1)}, []),
    (build.least_step, {"levels": TWO, "level": 0}, []),
    (told.member_status, {"levels": NEAR_LEVELS, "log": NEAR_LOG, "level": 0, "x": (2, 1)}, []),
    (told.sure_members, {"levels": NEAR_LEVELS, "log": NEAR_LOG, "level": 1}, []),
    (told.free_stretches, {"levels": NEAR_LEVELS, "log": NEAR_LOG, "level": 1}, []),
    (told.can_have, {"levels": TWO, "log": LOG, "members": ((0, (3, 1)),), "others": ((1, (4, 1)),)}, []),
    (told.why_not, {"levels": TWO, "log": LOG, "members": ((1, (3, 1)),), "others": ((1, (4, 1)),)}, []),
    (told.why_not, {"levels": TWO, "log": LOG, "members": ((1, (9, 1)),), "others": ()}, []),
    (told.why_not, {"levels": TWO, "log": LOG, "members": (), "others": ((1, (5, 1)), (0, NONE))}, []),
    (told.why_not, {"levels": NEAR_LEVELS, "log": NEAR_LOG, "members": (), "others": ((1, (2, 1)),)}, []),
    (results.results, {"levels": TWO, "log": LOG, "level": 0, "kind": "down", "point": (7, 1)}, []),
    (results.results, {"levels": TWO, "log": LOG, "level": 1, "kind": "near", "point": (12, 1)}, []),
    (results.results, {"levels": TWO, "log": LOG, "level": 0, "kind": "up", "point": (5, 1)}, []),
    (results.sure_result, {"levels": TWO, "log": LOG, "level": 0, "kind": "down", "point": ONE}, []),
    (results.farthest, {"levels": TWO, "log": LOG, "level": 0, "kind": "near", "point": (7, 1)}, []),
    (results.farthest, {"levels": TWO, "log": LOG, "level": 0, "kind": "down", "point": ONE}, []),
    (results.row_status, {"levels": TWO, "log": LOG, "row": (0, "near", (7, 1), (5, 1))}, []),
    (results.row_status, {"levels": TWO, "log": LOG, "row": (1, "member", (7, 1), (7, 1))}, []),
    (leastgap.least_gap, {"levels": NEAR_LEVELS, "log": NEAR_LOG, "level": 0, "g": HALF}, []),
    (leastgap.gap_lot, {"levels": NEAR_LEVELS, "log": NEAR_LOG, "level": 0, "g": HALF}, []),
    (leastgap.is_gap_lot, {"levels": NEAR_LEVELS, "log": NEAR_LOG, "level": 0, "g": NONE, "thing": (0,)}, ["thing"]),
]
PROGRAM = ((0, None), (
    ("round", 0, "near", (NONE, (HALF, HALF))), ("exact", (ONE, (ONE, NONE, BACK))), ("least", 1, 3), ("greatest", 0, 0),
    ("pick", (HALF, (ONE, BACK, NONE, NONE, NONE, NONE)), 5, 2),
))
PROGRAM_SAMPLES = [
    (programs.is_program, {"levels": TWO, "thing": PROGRAM}, ["thing"]),
    (programs.traces, {"levels": TWO, "program": PROGRAM}, []),
    (programs.cell_levels, {"levels": TWO, "program": PROGRAM}, []),
    (programs.straightened, {"levels": TWO, "program": PROGRAM, "way": (True, False, True)}, []),
    (programs.straightened, {"levels": TWO, "program": PROGRAM, "way": (False, True, False)}, []),
    (programs.mirrored_program, {"program": PROGRAM}, []),
    (machine.run_exact, {"program": PROGRAM, "worths": (ONE, HALF)}, []),
    (machine.run_in, {"levels": TWO, "chain": CHAIN, "program": PROGRAM, "worths": ((2, 1), HALF)}, []),
    (machine.log_of_run, {"levels": TWO, "chain": CHAIN, "program": PROGRAM, "worths": ((2, 1), HALF)}, []),
    (machine.way_of, {"levels": TWO, "chain": CHAIN, "program": PROGRAM, "worths": ((2, 1), HALF)}, []),
    (machine.exact_way, {"program": PROGRAM, "worths": (ONE, HALF)}, []),
]
LEVELS_TEXT, PROGRAM_TEXT = "low gap 4 1/2\nhigh", "a in 0\nb = least(near.1(a + 1), 2*a) if a - 1/2 else a"
TEXT_SAMPLES = [
    (texts.text_of_levels, {"levels": TWO}, []),
    (texts.text_of_log, {"log": LOG}, []),
    (texts.text_of_chain, {"chain": CHAIN}, []),
    (texts.text_of_program, {"program": PROGRAM}, []),
    (texts.levels_by, {"text": LEVELS_TEXT}, []),
    (texts.log_by, {"levels": TWO, "text": "0 down 7/2 3\n1 member 4"}, []),
    (texts.chain_by, {"levels": TWO, "text": "far 6 4\n1 mark 2\n0 fill 3 4 1/2\n0 mark -1"}, []),
    (texts.program_by, {"levels": TWO, "text": PROGRAM_TEXT}, []),
]
WIDE = (("low", None), ("high", ((3, 1), HALF)))
WIDE_LOG = ((1, "near", (4, 1), (5, 1)), (0, "member", NONE, NONE), (0, "down", (8, 1), (7, 1)))
SHORT = ((None, 0), (("round", 1, "near", (NONE, (HALF, HALF))), ("exact", (ONE, (NONE, NONE, (2, 1)))), ("least", 0, 3)))
FACTS = (((NONE, (BACK, ONE)), False), (((2, 1), (ONE, NONE)), True))
SOME, SURE = ("at least", ((-2, 1), (NONE, NONE, ONE, NONE, NONE))), ("at least", (NONE, (ONE, NONE, NONE, NONE, BACK)))
ASKED = {"levels": WIDE, "log": WIDE_LOG, "program": SHORT, "facts": FACTS}
RUN_SAMPLES = [
    (cases.letter_forms, {"program": SHORT}, []),
    (cases.denials, {"program": SHORT, "claim": ("equal", SOME[1])}, []),
    (cases.denials, {"program": SHORT, "claim": SURE}, []),
    (cases.conditions, {"levels": WIDE, "log": WIDE_LOG, "program": SHORT}, []),
    (decide.signs, {**ASKED, "form": SOME[1]}, []),
    (decide.claim_status, {**ASKED, "claim": SOME}, []),
    (decide.some_run, ASKED, []),
    (decide.counter, {**ASKED, "claim": SOME}, []),
    (decide.counter, {**ASKED, "claim": SURE}, []),
    (decide.ways, ASKED, []),
    (decide.leans_on, {**ASKED, "claim": SURE}, []),
    (decide.trees, {**ASKED, "claim": SURE}, []),
    (decide.trees, {**ASKED, "claim": SOME}, []),
    (drift.exact_twin, {"program": SHORT}, []),
    (drift.worth_stretch, {**ASKED, "form": SOME[1]}, []),
    (drift.drift_stretch, {**ASKED, "cell": 2}, []),
    (drift.greatest_drift, {**ASKED, "cell": 3}, []),
    (drift.is_drift, {**ASKED, "cell": 1, "thing": (NONE, True)}, ["thing"]),
    (drift.drift_run, {**ASKED, "cell": 4, "size": HALF}, []),
    (drift.drift_run, {**ASKED, "cell": 0, "size": HALF}, []),
    (drift.drift_status, {**ASKED, "cell": 2, "rate": HALF, "shift": ONE}, []),
    (drift.least_shift, {**ASKED, "cell": 2, "rate": HALF}, []),
]
LOG_SAMPLES = ROW_SAMPLES + ZONE_SAMPLES + POSSIBLE_SAMPLES + CHAIN_SAMPLES + FORMAT_SAMPLES
SAMPLES = RATIO_SAMPLES + STRAIGHT_SAMPLES + SYSTEM_SAMPLES + LOG_SAMPLES + PROGRAM_SAMPLES + TEXT_SAMPLES + RUN_SAMPLES
