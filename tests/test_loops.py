"""Section 21, loops.py: LOOPS, by rounds that the test plays itself."""

import random
import unittest
from fractions import Fraction

from everyformat.chains import holds
from everyformat.errors import Unfit
from everyformat.loops import is_loop, loop_log, loop_run, never_runs_off, one_round, ring_of, still_point
from tests import exact, formats
from tests.helpers import ODD_THINGS, badly_reduced, is_same, nearly
from tests.judges import pair, quotient

LOW, HIGH = ("low", None), ("high", None)
CHAIN = (((20, 1), (1, 1)), ((((-12, 5), (1, 1), (5, 2)), ()),))
LOOP = ("near", (-3, 4), (0, 1))


def played(levels, chain, loop, start, rounds):
    """The values of a run, as Fractions, and the LOG of its roundings."""
    kind, rate, shift = loop[0], quotient(loop[1]), quotient(loop[2])
    values, log = [Fraction(start)], []
    for _ in range(rounds):
        x = rate * values[-1] + shift
        for level in range(len(levels) - 1, -1, -1):
            y = exact.round_in(levels, chain, level, kind, x)
            log.append((level, kind, pair(x), pair(y)))
            x = y
        values.append(x)
    return values, tuple(log)


def some_loop(rng):
    rate = Fraction(rng.choice([-1, 1, 0, -3, 3, -2, 5, -7]), rng.choice([1, 2, 4, 8]))
    return (rng.choice(["down", "up", "near"]), pair(rate), pair(Fraction(rng.randint(-9, 9), rng.choice([1, 2, 3]))))


class Loops(unittest.TestCase):
    def test_is_loop(self):
        for given in (LOOP, ("down", (1, 1), (0, 1)), ("up", (10 ** 40, 3), (-5, 2))):
            self.assertIs(is_loop(given), True)
            for thing in nearly(given):
                self.assertIs(is_loop(thing), False, thing)
            for path in ((1,), (2,)):
                for thing in badly_reduced(given, path):
                    self.assertIs(is_loop(thing), False, thing)
        for thing in ODD_THINGS + [list(LOOP), ("member", (1, 2), (0, 1)), ("low", (1, 2), (0, 1)), LOOP[:2], LOOP + ((0, 1),)]:
            self.assertIs(is_loop(thing), False, thing)

    def test_still_point(self):
        for rate, shift, wanted in (((1, 2), (3, 1), (6, 1)), ((-1, 1), (3, 1), (3, 2)), ((0, 1), (5, 7), (5, 7)), ((3, 1), (1, 1), (-1, 2)),
                                    ((2, 3), (0, 1), (0, 1))):
            for kind in ("down", "up", "near"):
                self.assertTrue(is_same(still_point((kind, rate, shift)), wanted))

    def test_no_still_point(self):
        for shift in ((0, 1), (1, 1)):
            with self.assertRaises(Unfit):
                still_point(("near", (1, 1), shift))
            with self.assertRaises(Unfit):
                still_point(["near", [1, 1], list(shift)])

    def test_rounds_go_from_the_widest_level_to_the_narrowest(self):
        levels = (LOW, LOW)
        chain = (((6, 1), (4, 1)), ((((0, 1), (5, 1)), ()), (((2, 1), (3, 1)), ())))
        self.assertEqual(one_round(levels, chain, ("near", (1, 1), (0, 1)), (13, 5)), (5, 1))
        self.assertEqual(one_round(levels, chain, ("near", (1, 1), (0, 1)), (5, 2)), (0, 1))
        self.assertEqual(loop_log(levels, chain, ("near", (1, 1), (0, 1)), (5, 2), 1),
                         ((1, "near", (5, 2), (2, 1)), (0, "near", (2, 1), (0, 1))))

    def test_runs(self):
        side = (LOW,)
        self.assertEqual(loop_run(side, CHAIN, LOOP, (1, 1), 0), [(1, 1)])
        self.assertEqual(loop_run(side, CHAIN, LOOP, (7, 3), 0), [(7, 3)])
        self.assertEqual(loop_log(side, CHAIN, LOOP, (1, 1), 0), ())
        self.assertEqual(loop_run(side, CHAIN, ("up", (1, 1), (1, 2)), (20, 1), 3), [(20, 1), (21, 1), (22, 1), (23, 1)])

    def test_at_random(self):
        rng, rings = random.Random(1), {}
        for _ in range(300):
            levels, chain, members = formats.some_chain(rng, 5)
            loop, start, rounds = some_loop(rng), formats.some_point(rng, members[-1]), rng.randint(0, 14)
            values, log = played(levels, chain, loop, start, rounds)
            self.assertTrue(is_same(loop_run(levels, chain, loop, pair(start), rounds), [pair(x) for x in values]))
            found = loop_log(levels, chain, loop, pair(start), rounds)
            self.assertTrue(is_same(found, log))
            self.assertTrue(all(holds(levels, chain, row) for row in found))
            if rounds:
                self.assertEqual(one_round(levels, chain, loop, pair(start)), pair(values[1]))
            ring = self.ring(values)
            self.assertTrue(is_same(ring_of(levels, chain, loop, pair(start), rounds), ring))
            rings[ring and ring[1]] = rings.get(ring and ring[1], 0) + 1
        self.assertTrue(rings[None] > 30 and rings[1] > 30 and rings[2] > 5 and set(rings) == {None, 1, 2}, rings)

    def ring(self, values):
        for n in range(len(values)):
            for m in range(1, len(values) - n):
                if values[n] == values[n + m]:
                    return (n, m)
        return None

    def test_rings_just_within_the_rounds(self):
        side = (LOW,)
        self.assertEqual(ring_of(side, CHAIN, LOOP, (1, 1), 3), (1, 2))
        self.assertIsNone(ring_of(side, CHAIN, LOOP, (1, 1), 2))
        self.assertEqual(ring_of(side, CHAIN, ("near", (1, 1), (0, 1)), (1, 1), 1), (0, 1))
        self.assertIsNone(ring_of(side, CHAIN, ("near", (1, 1), (0, 1)), (1, 1), 0))
        self.assertEqual(ring_of(side, CHAIN, ("near", (0, 1), (2, 1)), (30, 1), 5), (1, 1))
        self.assertEqual(ring_of(side, CHAIN, ("near", (-1, 1), (0, 1)), (30, 1), 5), (0, 2))

    def test_two_hundred_rounds(self):
        levels = (LOW, HIGH, LOW, HIGH, LOW)
        chain = (((1, 10 ** 6), (1, 10 ** 6)), (((), ()),) * 5)
        loop = ("near", (99, 100), (1, 3))
        found = loop_run(levels, chain, loop, (0, 1), 200)
        self.assertEqual([quotient(x) for x in found], played(levels, chain, loop, 0, 200)[0])
        self.assertEqual(len(loop_log(levels, chain, loop, (0, 1), 200)), 1000)
        self.assertIsNone(ring_of(levels, chain, loop, (0, 1), 200))
        off = loop_run(levels, chain, ("down", (3, 2), (1, 1)), (1, 1), 200)
        self.assertTrue(all(quotient(x) < quotient(y) for x, y in zip(off, off[1:])))


class NeverRunsOff(unittest.TestCase):
    def check(self, rate, shift, wanted):
        """wanted: for each kind up to how many levels it never runs off, 0 to 5."""
        for kind, most in zip(("down", "up", "near"), wanted):
            for many in range(1, 6):
                self.assertIs(never_runs_off(many, (kind, pair(Fraction(rate)), shift)), many <= most, (kind, rate, shift, many))

    def test_rates_from_0_on(self):
        for shift in ((0, 1), (5, 3), (-10 ** 30, 1)):
            for rate in ("0", "1/2", "999999/1000000"):
                self.check(rate, shift, (5, 5, 5))
            self.check("1000001/1000000", shift, (0, 0, 0))
            self.check("7", shift, (0, 0, 0))

    def test_rate_1(self):
        self.check("1", (0, 1), (5, 5, 5))
        for shift in ((1, 10 ** 30), (-1, 2)):
            self.check("1", shift, (0, 0, 0))
        self.assertIs(never_runs_off(2, ["near", [1, 1], [0, 1]]), True)

    def test_rates_below_0(self):
        for shift in ((0, 1), (5, 3)):
            self.check("-1", shift, (5, 5, 0))
            self.check("-1000001/1000000", shift, (0, 0, 0))
            self.check("-999999/1000000", shift, (5, 5, 1))
            self.check("-1/10", shift, (5, 5, 5))

    def test_the_bounds_of_near(self):
        for many in range(1, 6):
            bound = Fraction((1 << many) - 1, 4 ** (many - 1))
            root = Fraction(isqrt(bound), 10 ** 20)
            for rate, wanted in ((root, True), (root + Fraction(1, 10 ** 20), False)):
                if many == 1:
                    wanted = rate < 1
                self.assertIs(never_runs_off(many, ("near", pair(-rate), (1, 1))), wanted)
        self.assertIs(never_runs_off(1, ("near", (-1, 1), (0, 1))), False)

    def test_the_bound_of_two_levels(self):
        self.assertIs(never_runs_off(2, ("near", (-866, 1000), (0, 1))), True)
        self.assertIs(never_runs_off(2, ("near", (-867, 1000), (0, 1))), False)


def isqrt(bound):
    """The greatest number whose square is at most bound times 10^40."""
    low, high = 0, 10 ** 21
    while low < high:
        middle = (low + high + 1) // 2
        if middle * middle <= bound * 10 ** 40:
            low = middle
        else:
            high = middle - 1
    return low


if __name__ == "__main__":
    unittest.main()
