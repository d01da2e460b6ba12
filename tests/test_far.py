"""Section 21, far.py: how far LOOPS go, by rows that the test works out and by rounds that it plays."""

import itertools
import random
import unittest
from fractions import Fraction

from everyformat.chains import is_chain
from everyformat.errors import CanNot, Unfit
from everyformat.far import (
    farthest_value, greatest_size, is_reached, last_outward, near_chain, off_chain, size_row,
)
from everyformat.loops import never_runs_off
from tests import exact, formats
from tests.helpers import is_same
from tests.judges import pair, quotient

LOW, HIGH = ("low", None), ("high", None)
RATES = sorted({Fraction(top, bottom) for top in range(-12, 13) for bottom in range(1, 13)})
ALL_SIDES = ((LOW,) * 5, (HIGH,) * 5, (LOW, HIGH, LOW, HIGH, LOW), (HIGH, HIGH, LOW, LOW, HIGH))


def sizes(many, rate, length):
    found = [Fraction(1), 2 ** many * (1 - rate) - 1]
    while len(found) < length:
        found.append(-2 ** many * rate * found[-1] - (2 ** many - 1) * found[-2])
    return found[:length]


def outward(many, rate):
    """The sizes z(0), .., z(last_outward)."""
    n = 1
    while True:
        found = sizes(many, rate, n + 2)
        if found[n + 1] <= found[n - 1]:
            return found[:n + 1]
        n += 1


def stays(many, rate):
    """Whether ("near", rate, (0, 1)) never runs off and rate is not 1."""
    return 0 <= rate < 1 or (rate < 0 and 4 ** (many - 1) * rate ** 2 < 2 ** many - 1)


def played(levels, chain, loop, start, rounds):
    kind, rate, shift = loop[0], quotient(loop[1]), quotient(loop[2])
    values = [quotient(start)]
    for _ in range(rounds):
        x = rate * values[-1] + shift
        for level in range(len(levels) - 1, -1, -1):
            x = exact.round_in(levels, chain, level, kind, x)
        values.append(x)
    return values


def still(loop):
    return quotient(loop[2]) / (1 - quotient(loop[1]))


class Sizes(unittest.TestCase):
    def test_rows(self):
        self.assertEqual(size_row(1, (-3, 4), 0), [])
        self.assertEqual(size_row(1, (-3, 4), 1), [(1, 1)])
        self.assertEqual(size_row(3, (1, 2), 2), [(1, 1), (3, 1)])
        for many in range(1, 6):
            for rate in RATES[::7] + [Fraction(1)]:
                for length in (0, 1, 2, 3, 9):
                    self.assertTrue(is_same(size_row(many, pair(rate), length), [pair(x) for x in sizes(many, rate, length)]))

    def test_two_hundred(self):
        for many, rate in ((1, Fraction(-11, 12)), (5, Fraction(-12, 7)), (3, Fraction(12, 1))):
            self.assertEqual(size_row(many, pair(rate), 200), [pair(x) for x in sizes(many, rate, 200)])

    def test_all_rates(self):
        last = 0
        for many in range(1, 6):
            for rate in RATES:
                if stays(many, rate):
                    row = outward(many, rate)
                    self.assertEqual(last_outward(many, pair(rate)), len(row) - 1)
                    self.assertTrue(is_same(greatest_size(many, pair(rate)), pair(max(row))))
                    self.assertEqual(farthest_value(many, pair(rate)), row.index(max(row)))
                    last = max(last, len(row) - 1)
        self.assertEqual(last, 20)

    def test_edges(self):
        self.assertEqual((last_outward(1, (0, 1)), greatest_size(1, (0, 1)), farthest_value(1, (0, 1))), (1, (1, 1), 0))
        self.assertEqual((last_outward(1, (1, 2)), greatest_size(1, (1, 2)), farthest_value(1, (1, 2))), (1, (1, 1), 0))
        self.assertEqual((last_outward(2, (0, 1)), greatest_size(2, (0, 1)), farthest_value(2, (0, 1))), (1, (3, 1), 1))
        self.assertEqual((last_outward(2, (1, 2)), greatest_size(2, (1, 2)), farthest_value(2, (1, 2))), (1, (1, 1), 0))
        self.assertEqual((last_outward(1, (-1, 3)), greatest_size(1, (-1, 3)), farthest_value(1, (-1, 3))), (1, (5, 3), 1))
        self.assertEqual((last_outward(1, (-1, 2)), greatest_size(1, (-1, 2)), farthest_value(1, (-1, 2))), (1, (2, 1), 1))

    def test_unfit(self):
        for many, rate in ((1, (1, 1)), (5, (1, 1)), (1, (-1, 1)), (2, (-7, 8)), (3, (2, 1)), (5, (-4, 11)), (1, (12, 11))):
            for function in (last_outward, greatest_size, farthest_value):
                with self.assertRaises(Unfit):
                    function(many, rate)
            with self.assertRaises(Unfit):
                is_reached((LOW,) * many, rate)
            with self.assertRaises(Unfit):
                near_chain(many, ("near", rate, (0, 1)), (1, 1))
        self.assertEqual(len(size_row(1, (1, 1), 3)), 3)


class Reached(unittest.TestCase):
    def test_all_rates(self):
        seen = {True: 0, False: 0}
        for many in range(1, 6):
            for rate in RATES[::3]:
                if stays(many, rate):
                    row = outward(many, rate)
                    for sides in itertools.product((LOW, HIGH), repeat=many):
                        wanted = max(row) == 1 or (max(row) == row[1] and len(set(sides)) == 1)
                        self.assertIs(is_reached(sides, pair(rate)), wanted)
                        seen[wanted] += 1
        self.assertTrue(min(seen.values()) > 50)

    def test_gaps_are_left_aside(self):
        self.assertIs(is_reached((("low", ((1, 1), (0, 1))), ("low", None)), (0, 1)), True)
        self.assertIs(is_reached((("low", ((1, 1), (0, 1))), ("high", ((1, 1), (0, 1)))), (0, 1)), False)

    def test_it_is_reached_where_all_sides_are_the_same(self):
        for many, rate in ((1, Fraction(-1, 3)), (2, Fraction(0)), (2, Fraction(1, 3)), (3, Fraction(-1, 12)), (3, Fraction(1, 2))):
            self.assertTrue(is_reached((LOW,) * many, pair(rate)))
            for level, sign in ((LOW, 1), (HIGH, -1)):
                # From the start, each level has a member as far on the other side as the start is.
                marks, x = [(0, Fraction(sign))], rate * sign
                for at in range(many - 1, -1, -1):
                    x += x - sign
                    marks.append((at, x))
                parts = tuple((tuple(pair(y) for y in sorted(y for own, y in marks if own == at)), ()) for at in range(many))
                run = played((level,) * many, (((99, 1), (1, 1)), parts), ("near", pair(rate), (0, 1)), (sign, 1), 1)
                self.assertEqual(abs(run[1]), quotient(greatest_size(many, pair(rate))))


class Bounds(unittest.TestCase):
    def some_run(self, rng):
        """A LOOP that never runs off, and the distances of a run of it from a member, with signs."""
        levels, chain, members = formats.some_chain(rng, 3)
        rate = rng.choice([rate for rate in RATES if stays(len(levels), rate) and abs(rate) > Fraction(1, 9)])
        shift = Fraction(rng.randint(-9, 9), rng.choice([1, 2, 3]))
        start = rng.choice([x for x in members[0] if abs(x) < 60])
        loop = ("near", pair(rate), pair(shift))
        levels = tuple((side, None) for side, _ in levels)
        values = played(levels, chain, loop, pair(start), 12)
        return len(levels), rate, [x - still(loop) for x in values]

    def test_no_played_run_goes_farther(self):
        rng = random.Random(1)
        for _ in range(500):
            many, rate, ways = self.some_run(rng)
            bound = quotient(greatest_size(many, pair(rate))) * abs(ways[0])
            self.assertTrue(all(abs(way) <= bound for way in ways))
            self.check_ring(many, rate, ways)

    def check_ring(self, many, rate, ways):
        """Whether value 2 is farther on the side of value 0; that all is a ring from last_outward on, then."""
        if ways[2] * ways[0] <= 0 or abs(ways[2]) <= abs(ways[0]):
            return False
        for n in range(last_outward(many, pair(rate)), len(ways) - 1):
            self.assertEqual(ways[n + 1], ways[n - 1])
        return True

    def test_rings(self):
        rng, rings = random.Random(2), {}
        for _ in range(150):
            many = rng.randint(1, 4)
            rate = rng.choice([rate for rate in RATES if stays(many, rate) and rate < 0 and len(outward(many, rate)) > 2])
            loop = ("near", pair(rate), (1, 3))
            far = ((10 ** 9, 1), (1, 1))
            (_, parts), start = near_chain(many, loop, pair(Fraction(rng.randint(1, 20), rng.choice([1, 7]))))
            bound = quotient(greatest_size(many, pair(rate)))
            more = [{pair(still(loop) + Fraction(rng.randint(-99, 99), 100) * bound) for _ in range(rng.randint(0, 2))} for _ in range(many)]
            own, known = [], {mark for marks, _ in parts for mark in marks}
            for (marks, _), others in zip(parts, more):
                own.append((tuple(sorted(set(marks) | (others - known), key=quotient)), ()))
                known |= others
            sides = tuple(rng.choice([LOW, HIGH]) for _ in range(many))
            self.assertTrue(is_chain(sides, (far, tuple(own))))
            ways = [x - still(loop) for x in played(sides, (far, tuple(own)), loop, start, 24)]
            self.assertLessEqual(max(abs(way) for way in ways), bound)
            if self.check_ring(many, rate, ways):
                rings[last_outward(many, pair(rate))] = True
        self.assertGreater(len(rings), 4)


class NearChains(unittest.TestCase):
    def check(self, many, loop, hair, more_sides=ALL_SIDES):
        chain, start = near_chain(many, loop, hair)
        row = outward(many, quotient(loop[1]))
        last, far = len(row) - 1, row.index(max(row))
        self.assertTrue(is_chain((LOW,) * many, chain))
        self.assertEqual(exact.below_in(chain, 0, quotient(start)), quotient(start))
        for sides in more_sides:
            ways = [abs(x - still(loop)) for x in played(sides[:many], chain, loop, start, last)]
            self.assertEqual(ways[0], 1)
            self.assertGreater(ways[far], max(row) - quotient(hair))
            self.assertTrue(all(ways[n + 1] > ways[n - 1] for n in range(1, last)))

    def test_ordinary(self):
        for hair in ((1, 10), (1, 1), (10 ** 6, 1), (1, 10 ** 6)):
            self.check(2, ("near", (-1, 2), (3, 1)), hair)
            self.check(1, ("near", (-3, 4), (0, 1)), hair)
            self.check(3, ("near", (1, 3), (-1, 7)), hair)

    def test_all_rates(self):
        for many in range(1, 6):
            for at, rate in enumerate(RATES):
                if stays(many, rate) and (at % 3 == many % 3 or len(outward(many, rate)) > 9):
                    loop = ("near", pair(rate), [(0, 1), (-999999, 10 ** 6), (10 ** 6, 999999)][at % 3])
                    self.check(many, loop, [(1, 10), (3, 10 ** 6), (10 ** 6, 7)][at % 3], ALL_SIDES[at % 3:at % 3 + 1])

    def test_unfit(self):
        for kind in ("down", "up"):
            with self.assertRaises(Unfit):
                near_chain(1, (kind, (-1, 2), (0, 1)), (1, 1))
        for loop in (("near", (1, 1), (0, 1)), ("near", (1, 1), (1, 1)), ("near", (-1, 1), (2, 1)), ("near", (2, 1), (0, 1))):
            with self.assertRaises(Unfit):
                near_chain(1, loop, (1, 1))


class OffChains(unittest.TestCase):
    def check(self, many, loop, rounds, more_sides=ALL_SIDES):
        chain, start = off_chain(many, loop, rounds)
        self.assertTrue(is_chain((LOW,) * many, chain))
        self.assertEqual(exact.below_in(chain, 0, quotient(start)), quotient(start))
        middle = quotient(start) if loop[1] == (1, 1) else still(loop)
        for sides in more_sides:
            ways = [abs(x - middle) for x in played(sides[:many], chain, loop, start, rounds)]
            self.assertTrue(all(one < other for one, other in zip(ways, ways[1:])), (many, loop))

    def test_rates_beyond_1(self):
        for kind in ("down", "up", "near"):
            for many in (1, 3):
                for rate in ((12, 11), (-12, 11), (3, 1), (-12, 1)):
                    for shift in ((0, 1), (7, 3), (-10 ** 6, 1)):
                        self.check(many, (kind, rate, shift), 60, ALL_SIDES[:2])

    def test_rate_1(self):
        for kind in ("down", "up", "near"):
            for shift in ((1, 1), (-2, 7), (10 ** 6, 1), (-1, 10 ** 6)):
                for many in (1, 5):
                    self.check(many, (kind, (1, 1), shift), 20)

    def test_near_with_rates_within_1(self):
        for many in range(1, 6):
            some = [rate for rate in RATES if -1 <= rate < 0 and not stays(many, rate)]
            self.assertTrue(some)
            for rate in some[::16] + some[-1:]:
                self.check(many, ("near", pair(rate), (-5, 3)), 60, ALL_SIDES[2:3])

    def test_few_rounds(self):
        for loop in (("near", (-1, 1), (3, 1)), ("down", (2, 1), (0, 1)), ("up", (1, 1), (1, 3)), ("near", (-7, 8), (3, 1))):
            for rounds in (0, 1, 2):
                self.check(2, loop, rounds)

    def test_those_that_never_run_off(self):
        for many, loop in ((1, ("near", (-3, 4), (0, 1))), (5, ("down", (-1, 1), (3, 1))), (2, ("up", (1, 1), (0, 1))),
                           (3, ("near", (0, 1), (5, 1))), (1, ("near", (-11, 12), (1, 1)))):
            self.assertIs(never_runs_off(many, loop), True)
            with self.assertRaises(CanNot):
                off_chain(many, loop, 3)

    def test_each_loop_has_one_or_never_runs_off(self):
        for many in (1, 2, 4):
            for rate in RATES[::11]:
                for kind in ("down", "up", "near"):
                    loop = (kind, pair(rate), (1, 2))
                    if never_runs_off(many, loop):
                        self.assertRaises(CanNot, off_chain, many, loop, 4)
                    else:
                        self.check(many, loop, 4, ALL_SIDES[:1])


if __name__ == "__main__":
    unittest.main()
