"""A call of each function, for tests of what is so of all of them.

A sample is a triple: a function, its arguments by name, in order, and the names of those that are a `thing`.
"""

from everyformat import ratios, straight, systems

NONE, ONE, BACK, HALF = (0, 1), (1, 1), (-1, 1), (1, 2)
FORM = ((1, 2), ((2, 1), (-1, 3)))
X, Y = (NONE, (ONE, NONE)), (NONE, (NONE, ONE))
THREE = ((X, False), ((NONE, (BACK, ONE)), True), (((4, 1), (BACK, BACK)), False))
MORE = THREE + ((((-2, 1), (ONE, NONE)), False),)
FLAT = ((X, False), ((NONE, (BACK, NONE)), False), (Y, True))
STRETCHES = ((NONE, True, ONE, False), (None, False, (3, 1), True))

RATIO_SAMPLES = [
    (ratios.is_fraction, {"thing": (3, 2)}, ["thing"]),
    (ratios.fraction, {"top": 6, "bottom": -4}, []),
    (ratios.whole, {"number": -7}, []),
    (ratios.plus, {"x": HALF, "y": (1, 3)}, []),
    (ratios.minus, {"x": HALF, "y": (1, 3)}, []),
    (ratios.times, {"x": HALF, "y": (2, 3)}, []),
    (ratios.over, {"x": HALF, "y": (-3, 1)}, []),
    (ratios.power_of, {"x": (-2, 3), "many": -2}, []),
    (ratios.power_of, {"x": (-2, 3), "many": 1}, []),
    (ratios.power_of, {"x": (-2, 3), "many": 0}, []),
    (ratios.is_less, {"x": (1, 3), "y": HALF}, []),
    (ratios.sign_of, {"x": (-3, 2)}, []),
    (ratios.size_of, {"x": (-3, 2)}, []),
    (ratios.floor_of, {"x": (-3, 2)}, []),
    (ratios.ceiling_of, {"x": (-3, 2)}, []),
    (ratios.middle, {"x": NONE, "y": (-3, 2)}, []),
    (ratios.in_order, {"fractions": (HALF, (1, 3), BACK, HALF)}, []),
    (ratios.in_order, {"fractions": ()}, []),
    (ratios.simplest_between, {"low": (1, 3), "high": (2, 5)}, []),
    (ratios.simplest_between, {"low": (-5, 2), "high": BACK}, []),
    (ratios.ratio_text, {"x": (-3, 2)}, []),
    (ratios.ratio_by, {"text": "-12/5"}, []),
]
STRAIGHT_SAMPLES = [
    (straight.is_form, {"thing": FORM, "many": 2}, ["thing"]),
    (straight.form_at, {"form": FORM, "worths": ((3, 1), ONE)}, []),
    (straight.form_at, {"form": (HALF, ()), "worths": ()}, []),
    (straight.constant_form, {"x": HALF, "many": 3}, []),
    (straight.single_form, {"place": 1, "many": 3}, []),
    (straight.plus_forms, {"form": FORM, "other": Y}, []),
    (straight.scaled_form, {"form": FORM, "x": (-2, 1)}, []),
    (straight.longer_form, {"form": FORM, "many": 4}, []),
    (straight.longer_form, {"form": FORM, "many": 2}, []),
    (straight.put_in, {"form": FORM, "forms": (Y, ((3, 1), (NONE, NONE))), "many": 2}, []),
    (straight.put_in, {"form": (HALF, (NONE,)), "forms": (Y,), "many": 2}, []),
    (straight.put_in, {"form": (HALF, ()), "forms": (), "many": 2}, []),
    (straight.named_in, {"form": FORM}, []),
    (straight.solved_for, {"form": FORM, "place": 1}, []),
    (straight.span_of, {"form": FORM, "stretches": STRETCHES}, []),
    (straight.span_of, {"form": (HALF, ()), "stretches": ()}, []),
    (straight.span_of, {"form": (HALF, (NONE, NONE)), "stretches": STRETCHES}, []),
]
SYSTEM_SAMPLES = [
    (systems.is_system, {"thing": THREE, "many": 2}, ["thing"]),
    (systems.holds_at, {"system": THREE, "worths": (NONE, ONE)}, []),
    (systems.solve, {"system": THREE, "many": 2}, []),
    (systems.solve, {"system": MORE, "many": 2}, []),
    (systems.solve, {"system": (), "many": 2}, []),
    (systems.is_closing, {"system": MORE, "thing": (NONE, ONE, ONE, (2, 1))}, ["thing"]),
    (systems.closed_lot, {"system": MORE, "many": 2}, []),
    (systems.greatest, {"form": X, "system": THREE, "many": 2}, []),
    (systems.greatest, {"form": Y, "system": THREE, "many": 2}, []),
    (systems.greatest, {"form": Y, "system": THREE[:2], "many": 2}, []),
    (systems.greatest, {"form": Y, "system": MORE, "many": 2}, []),
    (systems.is_greatest, {
        "form": Y, "system": THREE, "thing": ("reached", (4, 1), (ONE, NONE, ONE), (NONE, (4, 1))),
    }, ["thing"]),
    (systems.is_greatest, {
        "form": X, "system": THREE,
        "thing": ("neared", (2, 1), (NONE, HALF, HALF), (NONE, ONE), ((2, 1), (2, 1))),
    }, ["thing"]),
    (systems.is_greatest, {
        "form": Y, "system": THREE[:2], "thing": ("endless", (NONE, ONE), (NONE, ONE)),
    }, ["thing"]),
    (systems.values_of, {"form": Y, "system": THREE, "many": 2}, []),
    (systems.follows, {"system": THREE, "form": Y, "strict": True, "many": 2}, []),
    (systems.tight, {"system": FLAT, "many": 2}, []),
    (systems.inner, {"system": FLAT, "many": 2}, []),
]
SAMPLES = RATIO_SAMPLES + STRAIGHT_SAMPLES + SYSTEM_SAMPLES
