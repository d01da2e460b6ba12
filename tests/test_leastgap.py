"""Section 12, leastgap.py: the LOG is possible with a GAP exactly from the least gap on."""

import random
import unittest
from fractions import Fraction
from itertools import combinations

from everyformat.errors import NoPlace, Unfit
from everyformat.leastgap import gap_lot, is_gap_lot, least_gap
from tests import exact, grids
from tests.helpers import ODD_THINGS, is_same, nearly
from tests.judges import pair, quotient

BIG = 10 ** 30
SEVEN = (("low", ((7, 1), (0, 1))),)
BOTH = ((0, "down", (1, 1), (0, 1)), (0, "up", (8, 1), (10, 1)))
NONE = ((0, 1), False)
WORTHS = [(0, 1), (0, 1), (1, 4), (1, 2), (9, 10)]


def with_gap(levels, level, gap):
    return tuple((side, gap if at == level else old) for at, (side, old) in enumerate(levels))


def least_by_judge(levels, log, level, g):
    most = (Fraction(0), True)
    for low, low_in, high, high_in in exact.bars(levels, log, level):
        u, v = quotient(low), quotient(high)
        need = (v - u - quotient(g) * min(abs(u), abs(v)), low_in or high_in)
        most = max(most, need) if need[0] > 0 else most
    return (pair(most[0]), most[0] > 0 and not most[1])


class Random(unittest.TestCase):
    def each_question(self, seed, many, most):
        rng = random.Random(seed)
        for _ in range(many):
            levels, log = exact.possible_log(rng, most)
            yield rng, levels, log, rng.randrange(len(levels)), rng.choice(WORTHS)

    def test_least_gaps(self):
        lets = {}
        for _, levels, log, level, g in self.each_question(1, 200, 7):
            least, let = least_gap(levels, log, level, g)
            self.assertTrue(is_same((least, let), least_by_judge(levels, log, level, g)))
            lets[(least[0] > 0, let)] = True
            for way in (Fraction(-1, 10 ** 9), Fraction(0), Fraction(1, 10 ** 9), Fraction(3)):
                e = quotient(least) + way
                if e > 0:
                    able = exact.is_possible(with_gap(levels, level, (pair(e), g)), log)
                    self.assertIs(able, way > 0 or (way == 0 and let))
        self.assertEqual(len(lets), 3)

    def test_gap_lots(self):
        sizes = {}
        for _, levels, log, level, g in self.each_question(2, 120, 6):
            lots = self.gap_lots(levels, log, level, g)
            lot = gap_lot(levels, log, level, g)
            self.assertIn(lot, lots)
            self.assertLessEqual(len(lot), 2 * (len(levels) - level))
            sizes[len(lot)] = True
            for many in range(len(log) + 1):
                for thing in combinations(range(len(log)), many):
                    self.assertIs(is_gap_lot(levels, log, level, g, thing), thing in lots)
        self.assertGreater(len(sizes), 2)

    def gap_lots(self, levels, log, level, g):
        wanted = least_by_judge(levels, log, level, g)
        least = {lot: least_by_judge(levels, [log[number] for number in lot], level, g) == wanted
                 for many in range(len(log) + 1) for lot in combinations(range(len(log)), many)}
        return [lot for lot in least if least[lot]
                and not any(least[tuple(one for one in lot if one != number)] for number in lot)]


class Edges(unittest.TestCase):
    def test_no_need(self):
        for log in ((), ((0, "member", (3, 1), (3, 1)),), ((0, "near", (3, 1), (3, 1)),)):
            self.assertEqual(least_gap(SEVEN, log, 0, (1, 2)), NONE)
            self.assertEqual(gap_lot(SEVEN, log, 0, (1, 2)), ())
            self.assertIs(is_gap_lot(SEVEN, log, 0, (1, 2), ()), True)
        near = ((0, "down", (13, 1), (10, 1)),)
        self.assertEqual(least_gap(SEVEN, near, 0, (3, 10)), NONE)
        self.assertEqual(least_gap(SEVEN, near, 0, (2, 10)), ((1, 1), False))

    def test_let_and_not(self):
        near = ((0, "near", (1, 1), (0, 1)),)
        self.assertEqual(least_gap(SEVEN, near, 0, (0, 1)), ((2, 1), True))
        self.assertEqual(least_gap((("high", None),), near, 0, (0, 1)), ((2, 1), False))
        self.assertEqual(gap_lot(SEVEN, near, 0, (0, 1)), (0,))
        two = near + ((0, "down", (7, 1), (5, 1)),)
        self.assertEqual(least_gap(SEVEN, two, 0, (0, 1)), ((2, 1), False))
        self.assertEqual(gap_lot(SEVEN, two, 0, (0, 1)), (1,))
        self.assertIs(is_gap_lot(SEVEN, two, 0, (0, 1), (0, 1)), False)

    def test_this_levels_gap_is_left_aside(self):
        log = ((0, "down", (5, 1), (0, 1)), (0, "up", (5, 1), (9, 1)))
        self.assertEqual(least_gap(SEVEN, log, 0, (0, 1)), ((9, 1), True))
        self.assertEqual(gap_lot(SEVEN, log, 0, (0, 1)), (0, 1))
        wide = SEVEN + (("low", ((1, 1), (0, 1))),)
        self.assertEqual(least_gap(wide, log, 0, (0, 1)), ((9, 1), True))
        with self.assertRaises(Unfit):
            least_gap(wide, log, 1, (0, 1))

    def test_levels_of_other_rows(self):
        wide = (("low", None), ("high", None))
        log = ((0, "down", (5, 1), (0, 1)), (1, "up", (5, 1), (9, 1)))
        self.assertEqual(least_gap(wide, log, 0, (0, 1)), ((9, 1), True))
        self.assertEqual(least_gap(wide, log, 1, (0, 1)), ((4, 1), False))
        self.assertEqual((gap_lot(wide, log, 0, (0, 1)), gap_lot(wide, log, 1, (0, 1))), ((0, 1), (1,)))

    def test_the_side_of_the_level_stays(self):
        log = ((0, "near", (1, 1), (2, 1)), (0, "member", (0, 1), (0, 1)))
        self.assertEqual(least_gap((("high", None),), log, 0, (0, 1)), ((2, 1), True))
        with self.assertRaises(Unfit):
            least_gap((("low", None),), log, 0, (0, 1))

    def test_great_numbers(self):
        log = ((0, "down", (BIG - 1, 1), (-BIG, 1)), (0, "up", (BIG - 1, BIG), (BIG, 1)))
        self.assertEqual(least_gap(SEVEN, log, 0, (BIG - 1, BIG)), ((BIG + 1, 1), True))
        self.assertEqual(least_gap(SEVEN, (log[0],), 0, (1, BIG)), (pair(2 * BIG - 1 - Fraction(BIG - 1, BIG)), False))

    def test_sixty_rows_of_five_levels(self):
        levels = tuple(("high" if at % 2 else "low", (pair(BIG), (0, 1))) for at in range(5))
        log = [(at % 5, "down", pair(3 * at + 2), pair(3 * at)) for at in range(30)]
        log += [(at % 5, "up", pair(3 * at + Fraction(3, 2) + Fraction(at, 100)), pair(3 * at + 3)) for at in range(30)]
        for level in range(5):
            for g in ((0, 1), (1, 1000)):
                self.assertEqual(least_gap(levels, log, level, g), least_by_judge(levels, log, level, g))
                lot = gap_lot(levels, log, level, g)
                self.assertEqual(least_by_judge(levels, [log[number] for number in lot], level, g), least_gap(levels, log, level, g))
                self.assertIs(is_gap_lot(levels, log, level, g, lot), True)
                self.assertIs(is_gap_lot(levels, log, level, g, tuple(range(60))), False)

    def test_nearly_lots(self):
        log = ((0, "down", (5, 1), (0, 1)), (0, "up", (5, 1), (9, 1)), (0, "member", (20, 1), (20, 1)))
        self.assertIs(is_gap_lot(SEVEN, log, 0, (0, 1), (0, 1)), True)
        for thing in nearly((0, 1)) + ODD_THINGS + [(1, 0), (0, 0, 1), (0, 1, 2), (0,), (1,), (), (0, 1, 3), (-1, 0, 1),
                                                    (False, True), ((0, 1),), ((0, 0), (1, 1))]:
            expected = is_same(thing, (0, 1))
            self.assertIs(is_gap_lot(SEVEN, log, 0, (0, 1), thing), expected, thing)

    def test_errors(self):
        bad = ((0, "down", (1, 1), (0, 1)), (0, "member", (1, 2), (1, 2)))
        for call in (lambda level, log: least_gap(SEVEN, log, level, (0, 1)),
                     lambda level, log: gap_lot(SEVEN, log, level, (0, 1)),
                     lambda level, log: is_gap_lot(SEVEN, log, level, (0, 1), None)):
            for level in (1, -1):
                with self.assertRaises(NoPlace) as caught:
                    call(level, bad)
                self.assertEqual(caught.exception.place, level)
            with self.assertRaises(Unfit):
                call(0, bad)
        self.assertEqual(grids.shuts_out(SEVEN, bad[0], Fraction(1, 2)), True)


if __name__ == "__main__":
    unittest.main()
