"""Section 7, rows.py: GAPS, LEVELS, ROWS and LOGS."""

import random
import unittest
from fractions import Fraction

from everyformat.errors import NoPlace
from everyformat.possible import is_possible
from everyformat.rows import goes_right, is_gap, is_levels, is_log, is_row, mirrored, told
from tests import grids
from tests.helpers import ODD_THINGS, badly_reduced, is_same, nearly
from tests.judges import pair

TWO = (("low", ((7, 1), (1, 2))), ("high", None))
LOG = ((0, "down", (1, 1), (0, 1)), (1, "up", (8, 1), (10, 1)), (0, "near", (4, 1), (5, 1)), (1, "member", (2, 1), (2, 1)))


class Kinds(unittest.TestCase):
    def test_gaps(self):
        for gap in (None, ((1, 1), (0, 1)), ((1, 10 ** 30), (1, 2)), ((7, 2), (10 ** 30 - 1, 10 ** 30))):
            self.assertIs(is_gap(gap), True)
        for gap in (((0, 1), (0, 1)), ((-1, 1), (0, 1)), ((1, 1), (1, 1)), ((1, 1), (3, 2)), ((1, 1), (-1, 2))):
            self.assertIs(is_gap(gap), False)

    def test_nearly_gaps(self):
        gap = ((7, 1), (1, 2))
        for thing in nearly(gap) + badly_reduced(gap, (0,)) + badly_reduced(gap, (1,)):
            self.assertIs(is_gap(thing), thing is None, thing)
        for thing in ODD_THINGS:
            self.assertIs(is_gap(thing), thing is None)

    def test_levels(self):
        self.assertIs(is_levels(TWO), True)
        self.assertIs(is_levels(TWO[:1]), True)
        self.assertIs(is_levels(TWO * 20), True)
        self.assertIs(is_levels((("high", None),)), True)
        self.assertIs(is_levels(()), False)
        self.assertIs(is_levels((("low", None), ("near", None))), False)
        self.assertIs(is_levels((("low", ((0, 1), (0, 1))),)), False)
        self.assertIs(is_levels((("low",),)), False)
        self.assertIs(is_levels((("low", None, None),)), False)

    def test_nearly_levels(self):
        levels = (("low", ((7, 1), (1, 2))),)
        wrong = [thing for thing in nearly(levels) if not is_same(thing, (("low", None),))]
        for thing in wrong + badly_reduced(levels, (0, 1, 0)) + badly_reduced(levels, (0, 1, 1)):
            self.assertIs(is_levels(thing), False, thing)
        for thing in ODD_THINGS:
            self.assertIs(is_levels(thing), is_same(thing, (("low", None),)))

    def test_rows(self):
        for row in LOG:
            self.assertIs(is_row(TWO, row), True)
        for kind in ("down", "up", "near"):
            self.assertIs(is_row(TWO, (1, kind, (1, 1), (3, 1))), True)
            self.assertIs(is_row(TWO, (1, kind, (3, 1), (1, 1))), True)
        self.assertIs(is_row(TWO, (0, "member", (1, 1), (3, 1))), False)
        self.assertIs(is_row(TWO, (2, "down", (1, 1), (0, 1))), False)
        self.assertIs(is_row(TWO, (-1, "down", (1, 1), (0, 1))), False)
        self.assertIs(is_row(TWO[:1], (1, "down", (1, 1), (0, 1))), False)
        self.assertIs(is_row(TWO, (0, "nearest", (1, 1), (0, 1))), False)
        self.assertIs(is_row(TWO, (0, "down", (1, 1))), False)

    def test_nearly_rows(self):
        for row in LOG:
            for thing in nearly(row) + badly_reduced(row, (2,)) + badly_reduced(row, (3,)):
                self.assertIs(is_row(TWO, thing), False, thing)
        for thing in ODD_THINGS:
            self.assertIs(is_row(TWO, thing), False)

    def test_logs(self):
        self.assertIs(is_log(TWO, ()), True)
        self.assertIs(is_log(TWO, LOG), True)
        self.assertIs(is_log(TWO, LOG * 50), True)
        self.assertIs(is_log(TWO[:1], LOG), False)
        self.assertIs(is_log(TWO, list(LOG)), False)
        self.assertIs(is_log(TWO, LOG[0]), False)
        for thing in nearly(LOG):
            self.assertIs(is_log(TWO, thing), False, thing)
        for thing in ODD_THINGS:
            self.assertIs(is_log(TWO, thing), is_same(thing, ()))


class Rows(unittest.TestCase):
    def test_goes_right(self):
        for point in ((1, 3), (0, 1), (-5, 2)):
            for shift in (-1, 0, 1):
                result = pair(Fraction(*point) + Fraction(shift, 7))
                self.assertIs(goes_right((0, "down", point, result)), shift <= 0)
                self.assertIs(goes_right((0, "up", point, result)), shift >= 0)
                self.assertIs(goes_right((0, "near", point, result)), True)
            self.assertIs(goes_right((0, "member", point, point)), True)
        self.assertIs(goes_right((7, "down", (10 ** 30 - 1, 10 ** 30), (10 ** 30 - 2, 10 ** 30 - 1))), True)
        self.assertIs(goes_right((7, "up", (10 ** 30 - 1, 10 ** 30), (10 ** 30 - 2, 10 ** 30 - 1))), False)

    def test_told(self):
        self.assertEqual(told(TWO, LOG, 0), ((0, 1), (5, 1)))
        self.assertEqual(told(TWO, LOG, 1), ((0, 1), (2, 1), (5, 1), (10, 1)))
        self.assertEqual(told(TWO, (), 1), ())
        again = LOG + ((0, "up", (9, 2), (5, 1)), (1, "down", (-1, 3), (-1, 2)), (1, "down", (-1, 3), (-1, 3)))
        self.assertEqual(told(TWO, again, 1), ((-1, 2), (-1, 3), (0, 1), (2, 1), (5, 1), (10, 1)))

    def test_told_of_no_level(self):
        for level in (-1, 2, 7):
            with self.assertRaises(NoPlace) as caught:
                told(TWO, LOG, level)
            self.assertEqual(caught.exception.place, level)

    def test_mirrored(self):
        levels, log = mirrored(TWO, LOG)
        self.assertEqual(levels, (("high", ((7, 1), (1, 2))), ("low", None)))
        self.assertEqual(log, ((0, "up", (-1, 1), (0, 1)), (1, "down", (-8, 1), (-10, 1)),
                               (0, "near", (-4, 1), (-5, 1)), (1, "member", (-2, 1), (-2, 1))))
        self.assertTrue(is_same(mirrored(levels, log), (TWO, LOG)))
        self.assertEqual(mirrored(TWO, ()), (levels, ()))

    def test_mirrored_is_possible_alike(self):
        rng = random.Random(1)
        found = []
        for _ in range(200):
            levels, log = grids.some_log(rng, 4)
            found.append(is_possible(levels, log))
            self.assertIs(is_possible(*mirrored(levels, log)), found[-1])
        self.assertTrue(any(found) and not all(found))


if __name__ == "__main__":
    unittest.main()
