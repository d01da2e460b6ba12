"""The examples of sections 14, 15 and 17 of the document, as they stand."""

import unittest

from everyformat import cases, decide, drift, errors, machine, programs, ratios, straight, systems, texts
from tests.examples import Examples

SECTION_14 = r'''
>>> levels, none, one, half = (("low", None), ("high", None)), (0, 1), (1, 1), (1, 2)
>>> mean, copy_up = ("round", 0, "near", (none, (half, half))), ("round", 1, "up", (none, (none, none, one)))
>>> program, worths = ((0, 0), (mean, copy_up, ("least", 1, 3))), ((3, 1), (5, 1))
>>> text_of_program(program)
'x0 in 0\nx1 in 0\nx2 = near.0(1/2*x0 + 1/2*x1)\nx3 = up.1(x2)\nx4 = least(x1, x3)'
>>> program_by(levels, 'a in 0\nb in 0\nm = near.0(a + near.0(near.0(b - a)/2))')[1][1:]
(("round", 0, "near", ((0, 1), ((0, 1), (0, 1), (1, 2)))), ("round", 0, "near", ((0, 1), ((1, 1), (0, 1), (0, 1), (1, 1)))))
>>> log_by(levels, '0 near 4 3\n1 member 10/4')
((0, "near", (4, 1), (3, 1)), (1, "member", (5, 2), (5, 2)))
>>> levels_by('low gap 4 0\nhigh')
(("low", ((4, 1), (0, 1))), ("high", None))
'''

SECTION_15 = '''
>>> one, less, none = (1, 1), (-1, 1), (0, 1)
>>> plain, program = (("low", None),), ((0, None), (("round", 0, "near", (none, (none, one))),))
>>> facts, claim = (((none, (less, one)), False),), ("at least", (none, (less, none, one)))
>>> claim_status(plain, (), program, facts, claim), leans_on(plain, (), program, facts, claim)
('sure', ((), (0,)))
>>> signs(plain, (), program, facts, (none, (none, less, one)))
(-1, 0, 1)
>>> gapped, short = (("low", ((2, 1), none)),), ((None,), (("round", 0, "near", (none, (one,))),))
>>> claim_status(gapped, (), short, (), ("above", (one, (one, less)))), conditions(gapped, (), short)[1][1]
('sure', ((((2, 1), ((2, 1), (-2, 1))), True),))
>>> down_5 = (0, "down", (5, 1), none)
>>> claim_status(plain, (down_5,), ((0,), ()), (((less, (one,)), False), (((4, 1), (less,)), False)), ("equal", (none, (one,))))
'none'
'''

SECTION_17 = '''
>>> low = (("low", None),)
>>> half = ((0, 1), ((1, 2), (1, 2)))
>>> near = ((0, 0), (("round", 0, "near", half),))
>>> one, zero = (1, 1), (0, 1)
>>> unit = (((zero, (one, zero)), False), ((zero, ((-1, 1), one)), False), ((one, (zero, (-1, 1))), False))
>>> exact_twin(near) == ((0, 0), near[1] + (("exact", ((0, 1), ((1, 2), (1, 2), zero))),))
True
>>> drift_stretch(low, (), near, unit, 2), greatest_drift(low, (), near, unit, 2)
(((-1, 2), True, (1, 2), False), ((1, 2), True))
>>> any_one = ((None,), (("round", 0, "near", (zero, (one,))),))
>>> drift_stretch((("low", ((1, 1), zero)),), (), any_one, (), 1)
((-1, 2), True, (1, 2), False)
>>> wide = (("low", ((1, 1), (1, 4))),)
>>> greatest_drift(wide, (), any_one, (), 1) is None, least_shift(wide, (), any_one, (), 1, (1, 8))
(True, (4, 7))
'''

MODULES = [errors, ratios, straight, systems, programs, machine, texts, cases, decide, drift]


class RunExamples(Examples):
    def test_section_14(self):
        self.run_section(MODULES, SECTION_14)

    def test_section_15(self):
        self.run_section(MODULES, SECTION_15)

    def test_section_17(self):
        self.run_section(MODULES, SECTION_17)


if __name__ == "__main__":
    unittest.main()
