"""Section 7, zones.py: STRETCHES, zones, BARS and what GAPS let, judged on a grid."""

import random
import unittest
from fractions import Fraction

from everyformat.errors import NoPlace, Unfit
from everyformat.rows import goes_right
from everyformat.zones import (
    bars, excess, in_stretches, is_free, is_stretch, is_stretches, join_stretches, lets, meet_stretches, rest_of,
    run_with, stretch_at, zone,
)
from tests import grids
from tests.helpers import ODD_THINGS, badly_reduced, is_same, nearly
from tests.judges import pair, quotient

ALL = (None, False, None, False)
BIG = 10 ** 30
HALVES = [Fraction(number, 2) for number in range(-14, 15)]
QUARTERS = [Fraction(number, 4) for number in range(-80, 81)]


def span(low, low_in, high, high_in):
    return (None if low is None else pair(low), low_in, None if high is None else pair(high), high_in)


def some_stretch(rng):
    """A STRETCH with ends among the whole numbers within 6 of 0, or without them."""
    low, high = sorted(rng.randint(-6, 6) for _ in range(2))
    if low == high:
        return span(low, True, low, True)
    return span(*rng.choice([(low, True), (low, False), (low, True), (low, False), (None, False)]),
                *rng.choice([(high, True), (high, False), (high, True), (high, False), (None, False)]))


class IsStretch(unittest.TestCase):
    def test_stretches_of_all_kinds(self):
        for low in (None, 0, 1, 2):
            for high in (None, 0, 1, 2):
                for low_in in (True, False):
                    for high_in in (True, False):
                        expected = not (low is None and low_in) and not (high is None and high_in)
                        if low is not None and high is not None:
                            expected = low < high or (low == high and low_in and high_in)
                        self.assertIs(is_stretch(span(low, low_in, high, high_in)), expected)

    def test_nearly_a_stretch(self):
        stretch = span(Fraction(1, 2), True, 3, True)
        things = nearly(stretch) + badly_reduced(stretch, (0,)) + badly_reduced(stretch, (2,))
        for thing in things:
            self.assertIs(is_stretch(thing), False, thing)
        for thing in nearly(span(Fraction(1, 2), False, 3, False)):
            open_end = (is_same(thing, span(None, False, 3, False))
                        or is_same(thing, span(Fraction(1, 2), False, None, False)))
            self.assertIs(is_stretch(thing), open_end, thing)
        for thing in nearly(ALL) + ODD_THINGS:
            self.assertIs(is_stretch(thing), is_same(thing, ALL), thing)

    def test_many(self):
        left, right = span(None, False, 0, False), span(0, False, 1, True)
        self.assertIs(is_stretches(()), True)
        self.assertIs(is_stretches((ALL,)), True)
        self.assertIs(is_stretches((left, right)), True)
        self.assertIs(is_stretches((right, left)), False)
        self.assertIs(is_stretches((right, right)), False)
        self.assertIs(is_stretches((ALL, right)), False)
        self.assertIs(is_stretches((right, span(1, False, 2, True))), False)
        self.assertIs(is_stretches((right, span(1, True, 2, True))), False)
        self.assertIs(is_stretches((right, span(2, True, 2, True), span(2, False, None, False))), False)
        self.assertIs(is_stretches((right, span(2, False, 3, False), span(3, False, None, False))), True)
        self.assertIs(is_stretches((span(0, False, 1, False), span(1, True, 2, True))), False)
        self.assertIs(is_stretches((span(0, True, 3, True), span(1, True, 2, True))), False)
        self.assertIs(is_stretches((left, span(None, False, 5, True))), False)
        self.assertIs(is_stretches((span(0, True, None, False), span(5, True, 6, True))), False)
        self.assertIs(is_stretches(tuple(span(at, True, at, True) for at in range(500))), True)
        self.assertIs(is_stretches([left, right]), False)
        self.assertIs(is_stretches(left), False)
        for thing in nearly((left, right)):
            self.assertIs(is_stretches(thing), False, thing)
        for thing in ODD_THINGS:
            self.assertIs(is_stretches(thing), is_same(thing, ()))


class Joining(unittest.TestCase):
    def test_on_a_grid(self):
        rng = random.Random(1)
        for _ in range(400):
            some = [some_stretch(rng) for _ in range(rng.randint(0, 6))]
            more = [some_stretch(rng) for _ in range(rng.randint(0, 6))]
            self.check_two(tuple(some), tuple(more))

    def check_two(self, some, more):
        marks, others = grids.marked(some, HALVES), grids.marked(more, HALVES)
        joined, joined_more = join_stretches(some), join_stretches(more)
        self.assertTrue(is_same(joined, grids.unmarked(marks, HALVES)))
        both = [x and y for x, y in zip(marks, others)]
        self.assertTrue(is_same(meet_stretches(joined, joined_more), grids.unmarked(both, HALVES)))
        rest = [not x for x in marks]
        self.assertTrue(is_same(rest_of(joined), grids.unmarked(rest, HALVES)))
        for x, is_on in zip(HALVES, marks):
            self.assertIs(in_stretches(joined, pair(x)), is_on)
            at = stretch_at(joined, pair(x))
            self.assertTrue(at is None if not is_on else at in joined and grids.is_in(at, x))

    def test_run_with(self):
        rng = random.Random(2)
        for _ in range(400):
            stretches = join_stretches([some_stretch(rng) for _ in range(rng.randint(0, 5))])
            stretch = some_stretch(rng)
            runs = grids.unmarked(grids.marked(stretches + (stretch,), HALVES), HALVES)
            inside = [x for x in HALVES if grids.is_in(stretch, x)]
            expected = [run for run in runs if all(grids.is_in(run, x) for x in inside)]
            self.assertTrue(is_same([run_with(stretches, stretch)], expected))

    def test_side_by_side(self):
        zero, one = span(0, True, 1, False), span(1, False, 2, True)
        self.assertEqual(join_stretches((one, zero)), (zero, one))
        self.assertEqual(join_stretches((one, span(1, True, 1, True), zero)), (span(0, True, 2, True),))
        self.assertEqual(join_stretches((one, span(0, True, 1, True))), (span(0, True, 2, True),))
        self.assertEqual(join_stretches((zero, zero, zero)), (zero,))
        self.assertEqual(join_stretches(()), ())
        self.assertEqual(run_with((zero, one), span(1, True, 1, True)), span(0, True, 2, True))
        self.assertEqual(run_with((zero,), one), one)
        self.assertEqual(rest_of((zero, one)), (span(None, False, 0, False), span(1, True, 1, True),
                                                span(2, False, None, False)))
        self.assertEqual((rest_of(()), rest_of((ALL,))), ((ALL,), ()))

    def test_great_numbers(self):
        edge, next_edge = Fraction(BIG - 2, BIG - 1), Fraction(BIG - 1, BIG)
        one, other = span(-BIG, True, edge, True), span(next_edge, True, BIG, False)
        self.assertEqual(join_stretches((other, one)), (one, other))
        self.assertEqual(rest_of((one, other))[1], span(edge, False, next_edge, False))
        self.assertEqual(meet_stretches((one,), (other,)), ())

    def test_sixty(self):
        many = tuple(span(2 * at, at % 2 == 0, 2 * at + 1, at % 3 == 0) for at in range(60))
        self.assertTrue(is_stretches(many))
        self.assertEqual(join_stretches(many[::-1]), many)
        self.assertEqual(rest_of(rest_of(many)), many)
        self.assertEqual(meet_stretches(many, rest_of(many)), ())
        self.assertEqual(join_stretches(many + rest_of(many)), (ALL,))


class Zones(unittest.TestCase):
    levels = (("low", None), ("high", None))

    def test_kinds_and_sides(self):
        expected = {
            (0, "down", 1, 0): span(0, False, 1, True), (1, "up", 0, 1): span(0, True, 1, False),
            (0, "near", 1, 3): span(-1, True, 3, False), (1, "near", 1, 3): span(-1, False, 3, False),
            (0, "near", 1, -1): span(-1, False, 3, False), (1, "near", 1, -1): span(-1, False, 3, True),
            (0, "near", -1, -2): span(-2, False, 0, False), (1, "near", -1, -2): span(-2, False, 0, True),
        }
        for (level, kind, point, result), stretch in expected.items():
            self.assertTrue(is_same(zone(self.levels, (level, kind, pair(point), pair(result))), (stretch,)))

    def test_empty(self):
        for level in (0, 1):
            for kind in ("down", "up", "near", "member"):
                self.assertEqual(zone(self.levels, (level, kind, (1, 2), (1, 2))), ())
            self.assertEqual(zone(self.levels, (level, "down", (0, 1), (1, 1))), ())
            self.assertEqual(zone(self.levels, (level, "up", (1, 1), (0, 1))), ())

    def test_on_a_grid(self):
        rng = random.Random(3)
        for _ in range(300):
            levels = grids.some_levels(rng, 3)
            row = grids.some_row(rng, levels, 6)
            marks = [grids.shuts_out(levels, row, x) for x in QUARTERS]
            self.assertTrue(is_same(zone(levels, row), grids.unmarked(marks, QUARTERS)))

    def test_bars_and_free(self):
        rng = random.Random(4)
        for _ in range(150):
            levels, log = grids.some_log(rng, 6)
            for level in range(len(levels)):
                self.check_bars(levels, log, level)

    def check_bars(self, levels, log, level):
        wide = [row for row in log if row[0] >= level]
        marks = [any(grids.shuts_out(levels, row, x) for row in wide) for x in QUARTERS]
        self.assertTrue(is_same(bars(levels, log, level), grids.unmarked(marks, QUARTERS)))
        for x, is_on in list(zip(QUARTERS, marks))[::7]:
            self.assertIs(is_free(levels, log, level, pair(x)), not is_on)

    def test_no_level(self):
        row = (2, "down", (0, 1), (1, 1))
        for level in (2, -1):
            calls = [lambda: zone(self.levels, (level,) + row[1:]), lambda: bars(self.levels, (), level),
                     lambda: is_free(self.levels, (), level, (0, 1))]
            for call in calls:
                with self.assertRaises(NoPlace) as caught:
                    call()
                self.assertEqual(caught.exception.place, level)

    def test_bars_of_wider_levels_are_within(self):
        rng = random.Random(5)
        for _ in range(100):
            levels, log = grids.some_log(rng, 6)
            for level in range(1, len(levels)):
                wide, narrow = bars(levels, log, level), bars(levels, log, level - 1)
                self.assertEqual(meet_stretches(wide, narrow), wide)

    def test_sixty_rows(self):
        log = tuple((at % 2, "down", (2 * at + 1, 1), (2 * at, 1)) for at in range(60))
        self.assertEqual(len(bars(self.levels, log, 0)), 60)
        self.assertEqual(len(bars(self.levels, log, 1)), 30)


class Gaps(unittest.TestCase):
    def test_excess(self):
        values = [Fraction(number, 3) for number in range(-9, 10, 2)] + [Fraction(0), Fraction(BIG)]
        for gap in (((1, 1), (0, 1)), ((7, 2), (1, 3)), ((1, BIG), (BIG - 1, BIG))):
            for u in values:
                for v in values:
                    if u <= v:
                        self.assertEqual(excess(gap, pair(u), pair(v)), pair(grids.excess(gap, u, v)))

    def test_unfit(self):
        for gap, u, v in ((None, 0, 1), (((1, 1), (0, 1)), 1, 0), (None, 1, 0)):
            with self.assertRaises(Unfit):
                excess(gap, pair(u), pair(v))

    def test_lets(self):
        gap = ((2, 1), (1, 2))
        for low_in in (True, False):
            for high_in in (True, False):
                self.assertIs(lets(gap, span(2, low_in, 4, high_in)), True)
                self.assertIs(lets(gap, span(2, low_in, 5, high_in)), not low_in and not high_in)
                self.assertIs(lets(gap, span(-5, low_in, -2, high_in)), not low_in and not high_in)
                self.assertIs(lets(gap, span(2, low_in, Fraction(501, 100), high_in)), False)
                self.assertIs(lets(None, span(-BIG, low_in, BIG, high_in)), True)
        self.assertIs(lets(gap, span(9, True, 9, True)), True)
        for stretch in (ALL, span(None, False, 0, True), span(0, False, None, False)):
            self.assertIs(lets(gap, stretch), False)
            self.assertIs(lets(None, stretch), True)

    def test_members_put_between_never_break_a_gap(self):
        rng = random.Random(6)
        for _ in range(200):
            gap = grids.some_gap(rng) or ((1, 1), (1, 2))
            ends = sorted(Fraction(rng.randint(-30, 30), rng.randint(1, 3)) for _ in range(4))
            outer, inner = excess(gap, pair(ends[0]), pair(ends[3])), excess(gap, pair(ends[1]), pair(ends[2]))
            room = (1 - quotient(gap[1])) * (ends[1] - ends[0] + ends[3] - ends[2])
            self.assertGreaterEqual(quotient(outer) - quotient(inner), room)


class Rows(unittest.TestCase):
    def test_zone_is_none_of_a_row_that_does_not_go_right(self):
        rng = random.Random(7)
        for _ in range(200):
            levels = grids.some_levels(rng, 2)
            row = grids.some_row(rng, levels, 4)
            if not goes_right(row) or row[2] == row[3]:
                self.assertEqual(zone(levels, row), ())
            else:
                (stretch,) = zone(levels, row)
                at_low = stretch[0] == row[3] and not stretch[1]
                at_high = stretch[2] == row[3] and not stretch[3]
                self.assertTrue(at_low or at_high)


if __name__ == "__main__":
    unittest.main()
