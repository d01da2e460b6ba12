"""The examples of sections 7, 8 and 9 of the document, as they stand."""

import unittest

from everyformat import chains, errors, gaps, possible, ratios, rows, zones
from tests.examples import Examples

SECTION_7 = '''
>>> two = (("low", ((7, 1), (0, 1))), ("high", None))
>>> log = ((0, "down", (1, 1), (0, 1)), (1, "up", (8, 1), (10, 1)), (0, "near", (4, 1), (5, 1)))
>>> zone(two, log[0]), zone(two, log[2]), zone(two, (1, "near", (4, 1), (5, 1)))
((((0, 1), False, (1, 1), True),), (((3, 1), True, (5, 1), False),), (((3, 1), False, (5, 1), False),))
>>> bars(two, log, 0) == zone(two, log[0]) + zone(two, log[2]) + zone(two, log[1]), bars(two, log, 1), told(two, log, 0)
(True, (((8, 1), True, (10, 1), False),), ((0, 1), (5, 1)))
>>> is_free(two, log, 0, (3, 1)), is_free(two, log, 1, (3, 1)), run_with(bars(two, log, 0), ((1, 1), False, (2, 1), True))
(False, True, ((0, 1), False, (2, 1), True))
>>> excess(two[0][1], (0, 1), (1, 1)), excess(((1, 1), (1, 2)), (-3, 1), (2, 1))
((-6, 1), (3, 1))
>>> lets(((2, 1), (0, 1)), ((3, 1), False, (5, 1), False)), lets(((2, 1), (0, 1)), ((3, 1), True, (5, 1), False))
(True, False)
>>> rest_of(zone(two, log[0]))
((None, False, (0, 1), True), ((1, 1), False, None, False))
>>> mirrored(two, log[:1])
((("high", ((7, 1), (0, 1))), ("low", None)), ((0, "up", (-1, 1), (0, 1)),))
>>> bars(two, log, 2)
raises NoPlace(place=2)
'''

SECTION_8 = '''
>>> one = (("low", ((7, 1), (0, 1))),)
>>> rows = ((0, "down", (5, 1), (0, 1)), (0, "member", (9, 1), (9, 1)), (0, "up", (5, 1), (8, 1)))
>>> fault(one, rows), is_possible(one, rows), is_possible_lot(one, rows, (0, 1)), possible_rows(one, rows)
(("long", 0, ((0, 1), False, (8, 1), False)), False, True, 2)
>>> least_lot(one, rows), is_least_lot(one, rows, (0, 1, 2)), key_rows(one, rows), lot_bound(one)
((0, 2), False, (0, 2), 2)
>>> rows = rows + ((0, "member", (4, 1), (4, 1)), (0, "up", (3, 1), (2, 1)))
>>> fault(one, rows), is_fault(one, rows, ("inside", 3, 0)), is_fault(one, rows, ("inside", 3, 2)), key_rows(one, rows)
(("way", 4), True, False, ())
>>> wide = (("low", None), ("low", None))
>>> is_possible(wide, ((0, "down", (3, 1), (1, 1)), (1, "member", (2, 1), (2, 1)))), fault(wide, ((1, "down", (3, 1), (1, 1)), (0, "member", (2, 1), (2, 1))))
(True, ("inside", 1, 0))
>>> next_possible(one, rows[:1], (0, "near", (6, 1), (7, 1))), next_possible(one, rows[:1], (0, "near", (7, 1), (9, 1)))
(True, False)
>>> narrow, sharp = sharp_log(2)
>>> least_lot(narrow, sharp), len(narrow)
((0, 1, 2, 3), 2)
>>> least_lot(one, rows[:1])
raises CanNot()
'''

SECTION_9 = '''
>>> one = (("low", None),)
>>> steps = (((10, 1), (3, 1)), ((((0, 1),), (((1, 1), (4, 1), (3, 2)),)),))
>>> is_chain(one, steps), is_chain(one, (steps[0], (((), (((1, 1), (4, 1), (2, 1)),)),)))
(True, False)
>>> round_by(one, steps, 0, "down", (7, 2)), round_by(one, steps, 0, "up", (9, 1)), round_by(one, steps, 0, "near", (-5, 1))
((5, 2), (10, 1), (-10, 1))
>>> next_above(one, steps, 0, (4, 1)), next_below(one, steps, 0, (-10, 1)), count_between(one, steps, 0, (-10, 1), (13, 1))
((10, 1), (-13, 1), 7)
>>> two = (("low", ((4, 1), (0, 1))), ("high", None))
>>> chain = (((6, 1), (4, 1)), ((((-3, 1), (0, 1), (2, 1), (5, 1)), ()), (((7, 2),), ())))
>>> log = ((0, "near", (1, 1), (0, 1)), (1, "near", (17, 4), (5, 1)))
>>> [holds(two, chain, row) for row in log], is_member(two, chain, 0, (7, 2)), is_member(two, chain, 1, (7, 2))
([True, True], False, True)
>>> keeps_gaps(two, chain), shows(two, chain, log), worst_gap(two, chain, 1) is None
(True, True, True)
>>> keeps_gaps((("low", ((3, 1), (0, 1))), ("low", None)), chain), worst_gap((("low", ((1, 1), (1, 2))),), (((6, 1), (4, 1)), (((), ()),)), 0)
(False, ((-6, 1), (6, 1)))
>>> holds(two, chain, (2, "down", (1, 1), (0, 1)))
raises NoPlace(place=2)
'''

MODULES = [errors, ratios, rows, zones, possible, chains, gaps]


class LogExamples(Examples):
    def test_section_7(self):
        self.run_section(MODULES, SECTION_7)

    def test_section_8(self):
        self.run_section(MODULES, SECTION_8)

    def test_section_9(self):
        self.run_section(MODULES, SECTION_9)


if __name__ == "__main__":
    unittest.main()
