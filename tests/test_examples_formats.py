"""The examples of sections 10 to 13 of the document, as they stand."""

import unittest

from everyformat import (
    build, chains, errors, gaps, leastgap, machine, possible, programs, ratios, results, rows, straight, systems, told,
    zones,
)
from tests.examples import Examples

SECTION_10 = '''
>>> two = (("low", ((4, 1), (0, 1))), ("high", None))
>>> seven = (("low", ((7, 1), (0, 1))),)
>>> far = ((0, "down", (1, 1), (0, 1)), (0, "up", (8, 1), (10, 1)))
>>> built = build_chain(seven, far)
>>> shows(seven, built, far), round_by(seven, built, 0, "down", (1, 2)), round_by(seven, built, 0, "up", (9, 1))
(True, (0, 1), (10, 1))
>>> near = (("low", ((2, 1), (0, 1))),)
>>> tie = ((0, "near", (1, 1), (0, 1)),)
>>> is_member(near, build_chain(near, tie), 0, (2, 1)), parted_by(near, tie, 0, (2, 1))[1] is None
(True, True)
>>> is_member(near, chain_without(near, tie, 0, (3, 1)), 0, (3, 1)), is_member(near, chain_with(near, tie, 0, (3, 1)), 0, (3, 1))
(False, True)
>>> chain_with(near, tie, 0, (1, 1))
raises CanNot()
>>> build_chain(seven, far + ((0, "near", (5, 1), (0, 1)),))
raises CanNot()
>>> least_step(two, 0), least_step(two, 1)
((4, 1), None)
'''

SECTION_11 = '''
>>> one = (("low", ((2, 1), (0, 1))),)
>>> near_log = ((0, "near", (1, 1), (0, 1)),)
>>> sure_members(one, near_log, 0), free_stretches(one, near_log, 0)
(((0, 1), (2, 1)), ((None, False, (0, 1), True), ((2, 1), True, None, False)))
>>> two = (("low", ((5, 1), (0, 1))), ("high", None))
>>> steps = ((1, "near", (1, 1), (2, 1)), (1, "near", (3, 1), (4, 1)), (1, "near", (5, 1), (6, 1)))
>>> [member_status(two, steps, 0, x) for x in ((1, 1), (2, 1), (4, 1))], sure_members(two, steps, 1)
(['never', 'some', 'some'], ((2, 1), (4, 1), (6, 1)))
>>> can_have(two, steps, (), ((0, (2, 1)),)), can_have(two, steps, (), ((0, (2, 1)), (0, (4, 1))))
(True, False)
>>> why_not(two, steps, (), ((0, (4, 1)), (0, (2, 1)))), why_not(two, steps, ((0, (2, 1)),), ((1, (2, 1)),))
(('long', 0, ((0, 1), False, (6, 1), False)), ('told', 0))
'''

SECTION_12 = '''
>>> one = (("low", ((2, 1), (0, 1))),)
>>> near_log = ((0, "near", (1, 1), (0, 1)),)
>>> two = (("low", ((5, 1), (0, 1))), ("high", None))
>>> steps = ((1, "near", (1, 1), (2, 1)), (1, "near", (3, 1), (4, 1)), (1, "near", (5, 1), (6, 1)))
>>> seven = (("low", ((7, 1), (0, 1))),)
>>> both = ((0, "down", (1, 1), (0, 1)), (0, "up", (8, 1), (10, 1)))
>>> results(seven, both, 0, "down", (5, 1))
(((0, 1), True, (0, 1), True), ((1, 1), False, (5, 1), True))
>>> results(seven, both, 0, "down", (15, 2)), results(seven, both, 0, "down", (9, 1))
((((1, 1), False, (15, 2), True),), (((3, 1), True, (8, 1), False),))
>>> results(seven, both, 0, "near", (5, 1)), farthest(seven, both, 0, "near", (5, 1))
((((2, 1), False, (8, 1), False),), ((3, 1), False))
>>> sure_result(seven, both, 0, "down", (1, 2)), row_status(seven, both, (0, "down", (5, 1), (0, 1)))
((0, 1), 'some')
>>> row_status(seven, both, (0, "member", (10, 1), (10, 1))), farthest(seven, both, 0, "down", (5, 1))
('sure', ((5, 1), True))
>>> least_gap(seven, both, 0, (0, 1)), gap_lot(seven, both, 0, (0, 1)), least_gap(seven, both, 0, (1, 2))
(((2, 1), False), (1,), ((1, 1), False))
>>> least_gap(one, near_log, 0, (0, 1)), results(two, steps, 0, "up", (1, 1))
(((2, 1), True), (((2, 1), True, (2, 1), True), ((4, 1), True, (4, 1), True)))
'''

SECTION_13 = '''
>>> levels, none, one, half = (("low", None), ("high", None)), (0, 1), (1, 1), (1, 2)
>>> mean, copy_up = ("round", 0, "near", (none, (half, half))), ("round", 1, "up", (none, (none, none, one)))
>>> program, worths = ((0, 0), (mean, copy_up, ("least", 1, 3))), ((3, 1), (5, 1))
>>> chain = (((9, 1), (1, 1)), ((((0, 1), (3, 1), (5, 1)), ()), (((4, 1),), ())))
>>> run_in(levels, chain, program, worths)[2:], run_exact(program, worths)[2:]
(((3, 1), (3, 1), (3, 1)), ((4, 1), (4, 1), (4, 1)))
>>> log_of_run(levels, chain, program, worths)[2:], cell_levels(levels, program)
(((0, "near", (4, 1), (3, 1)), (1, "up", (3, 1), (3, 1))), [0, 0, 0, 0, 0])
>>> straightened(levels, program, way_of(levels, chain, program, worths))[1]
((((0, 1), ((0, 1), (1, 1), (0, 1), (-1, 1), (0, 1))), True),)
'''

MODULES = [
    errors, ratios, straight, systems, rows, zones, possible, chains, gaps, build, told, results, leastgap, programs,
    machine,
]


class FormatExamples(Examples):
    def test_section_10(self):
        self.run_section(MODULES, SECTION_10)

    def test_section_11(self):
        self.run_section(MODULES, SECTION_11)

    def test_section_12(self):
        self.run_section(MODULES, SECTION_12)

    def test_section_13(self):
        self.run_section(MODULES, SECTION_13)


if __name__ == "__main__":
    unittest.main()
