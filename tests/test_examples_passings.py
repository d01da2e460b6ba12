"""The examples of sections 18, 19, 20 and 21 of the document, as they stand."""

import unittest

from everyformat import alike, ends, errors, loops, passings, ratios, rewrite
from tests.examples import Examples

SECTION_18 = '''
>>> zero, half, unit, low = (0, 1), (1, 2), (1, 1), (("low", None),)
>>> plain = ((None,), (("round", 0, "down", (zero, (unit,))),))
>>> mean = ((None,), plain[1] + (("round", 0, "down", (zero, (half, half))),))
>>> is_alike(low, (), mean, plain, ()), needless(low, (), mean, ())
(True, (1,))
>>> first, second = ("round", 1, "down", (zero, (half,))), ("round", 0, "down", (zero, (zero, unit)))
>>> long = ((1,), (first, second, ("round", 1, "near", (zero, (zero, zero, unit))), ("least", 3, 1)))
>>> rewritten(low * 2, long) == ((1,), (("round", 0, "down", (zero, (half,))),))
True
'''

SECTION_19 = '''
>>> zero, half, unit, low = (0, 1), (1, 2), (1, 1), (("low", None),)
>>> plain = ((None,), (("round", 0, "down", (zero, (unit,))),))
>>> mean = ((None,), plain[1] + (("round", 0, "down", (zero, (half, half))),))
>>> two_ends(low, mean)[1][2:] == (("round", 0, "down", (zero, (half, half, zero))), ("round", 0, "up", (zero, (half, zero, half, zero))))
True
>>> is_held(low, (), plain, two_ends(low, plain), ()), ends_width((("low", (unit, zero)),), (), plain, ())
(True, ((1, 1), True))
>>> signs_of = ((0, 0), (("round", 0, "down", (zero, ((-1, 1), unit))), ("pick", (zero, (zero, zero, unit)), 1, 0)))
>>> choice_status(low, ((0, "member", zero, zero),), signs_of, (), 0), choice_status(low, (), signs_of, (), 0)
('sure', 'some')
'''

SECTION_20 = '''
>>> low, high = ("low", None), ("high", None)
>>> reduced(((1, "up"), (1, "near"), (0, "up"), (2, "down"))), len(all_reduced(2)), len(all_reduced(3))
(((0, "up"),), 14, 48)
>>> halves, near = ((1, "near"), (0, "down")), ((0, "near"),)
>>> never_above((low, low), halves, near), never_above((low, high), halves, near), never_above((low, low), near, halves)
(True, False, False)
>>> chain = (((2, 1), (1, 1)), ((((0, 1), (1, 1)), ()), ((), ())))
>>> passed_on((low, high), chain, halves, (1, 2)), passed_on((low, high), chain, near, (1, 2))
((1, 1), (0, 1))
>>> handed = (((2, 1), (1, 1)), ((((0, 1),), ()), (((11, 10),), ())))
>>> passing_log((low, low), handed, ((1, "near"), (0, "near")), (9, 10))
((1, "near", (9, 10), (11, 10)), (0, "near", (11, 10), (2, 1)))
>>> above_chain((low, low), ((0, "down"),), ((1, "up"),)) is None, is_same(halves, near)
(True, False)
'''

SECTION_21 = '''
>>> side = (("low", None),)
>>> chain = (((20, 1), (1, 1)), ((((-12, 5), (1, 1), (5, 2)), ()),))
>>> loop = ("near", (-3, 4), (0, 1))
>>> loop_run(side, chain, loop, (1, 1), 4), ring_of(side, chain, loop, (1, 1), 4), loop_log(side, chain, loop, (1, 1), 1)
([(1, 1), (-12, 5), (5, 2), (-12, 5), (5, 2)], (1, 2), ((0, 'near', (-3, 4), (-12, 5)),))
>>> [never_runs_off(many, ("near", (-7, 8), (3, 1))) for many in (1, 2)], never_runs_off(3, ("down", (-1, 1), (3, 1)))
([True, False], True)
'''

MODULES = [errors, ratios, rewrite, alike, ends, passings, loops]


class PassingExamples(Examples):
    def test_section_18(self):
        self.run_section(MODULES, SECTION_18)

    def test_section_19(self):
        self.run_section(MODULES, SECTION_19)

    def test_section_20(self):
        self.run_section(MODULES, SECTION_20)

    def test_section_21(self):
        self.run_section(MODULES, SECTION_21)


if __name__ == "__main__":
    unittest.main()
