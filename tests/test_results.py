"""Section 12, results.py: a FRACTION is a result exactly if the LOG with this further ROW is possible."""

import random
import unittest
from fractions import Fraction

from everyformat.build import build_chain
from everyformat.errors import NoPlace, Unfit
from everyformat.results import farthest, results, row_status, sure_result
from everyformat.zones import is_stretches
from tests import exact, grids
from tests.helpers import is_same
from tests.judges import pair, quotient

BIG = 10 ** 30
KINDS = ("down", "up", "near")
SEVEN = (("low", ((7, 1), (0, 1))),)
BOTH = ((0, "down", (1, 1), (0, 1)), (0, "up", (8, 1), (10, 1)))
BAD = ((0, "down", (1, 1), (0, 1)), (0, "member", (1, 2), (1, 2)))


def ends_of(stretches):
    return [quotient(end) for stretch in stretches for end in (stretch[0], stretch[2]) if end is not None]


class Random(unittest.TestCase):
    def each_question(self, seed, many):
        rng = random.Random(seed)
        for _ in range(many):
            levels, log = exact.possible_log(rng, 6)
            for x in exact.interesting(rng, levels, log, 2):
                yield rng, levels, log, rng.randrange(len(levels)), rng.choice(KINDS), x

    def test_results(self):
        for rng, levels, log, level, kind, x in self.each_question(1, 120):
            found = results(levels, log, level, kind, x)
            self.assertTrue(is_stretches(found) and found)
            ends = ends_of(found)
            tries = ends + [end + way for end in ends for way in (Fraction(1, 10 ** 6), Fraction(-1, 10 ** 6))]
            tries += rng.sample(exact.grid_for(log + ((0, "near", x, (3, 1)),)), 3) + [quotient(x)]
            for y in tries + [quotient(x) + rng.randint(-99, 99)]:
                is_in = any(grids.is_in(stretch, y) for stretch in found)
                self.assertIs(is_in, exact.is_possible(levels, log + ((level, kind, x, pair(y)),)), (levels, log, kind, x, y))

    def test_farthest_and_sure_ones(self):
        reached = {}
        for _, levels, log, level, kind, x in self.each_question(2, 120):
            found = results(levels, log, level, kind, x)
            far = farthest(levels, log, level, kind, x)
            reached[None if far is None else far[1]] = True
            if found[0][0] is None or found[-1][2] is None:
                self.assertIsNone(far)
            else:
                ways = [(abs(quotient(end) - quotient(x)), is_in) for one in found for end, is_in in (one[:2], one[2:])]
                most = max(way for way, _ in ways)
                self.assertTrue(is_same(far, (pair(most), any(is_in for way, is_in in ways if way == most))))
            only = [found[0][0]] if len(found) == 1 and found[0][0] == found[0][2] and found[0][0] else [None]
            self.assertTrue(is_same(sure_result(levels, log, level, kind, x), only[0]))
        self.assertEqual(len(reached), 3)

    def test_row_status(self):
        seen = {}
        for rng, levels, log, level, kind, x in self.each_question(3, 200):
            found = results(levels, log, level, kind, x)
            row = (level, kind, x, pair(rng.choice(ends_of(found) + [quotient(x) + rng.randint(-2, 2)])))
            can = exact.is_possible(levels, log + (row,))
            is_only = can and len(found) == 1 and found[0][0] == found[0][2] is not None
            expected = "sure" if is_only else "some" if can else "never"
            self.assertEqual(row_status(levels, log, row), expected)
            seen[expected] = True
            member = (level, "member", x, x)
            able, less = exact.is_possible(levels, log + (member,)), exact.is_possible(levels, log, [(level, x)])
            self.assertEqual(row_status(levels, log, member), "never" if not able else "some" if less else "sure")
        self.assertEqual(len(seen), 3)

    def test_each_result_is_played(self):
        for _, levels, log, level, kind, x in self.each_question(4, 40):
            for stretch in results(levels, log, level, kind, x):
                low = Fraction(-40) if stretch[0] is None else quotient(stretch[0])
                high = Fraction(40) if stretch[2] is None else quotient(stretch[2])
                row = (level, kind, x, pair((low + high) / 2))
                self.assertTrue(exact.shows(levels, build_chain(levels, log + (row,)), log + (row,), 200))


class Edges(unittest.TestCase):
    def test_without_an_end(self):
        levels = (("low", None),)
        self.assertEqual(results(levels, (), 0, "near", (1, 1)), ((None, False, None, False),))
        self.assertEqual(results(levels, (), 0, "down", (1, 1)), ((None, False, (1, 1), True),))
        self.assertEqual(results(levels, (), 0, "up", (1, 1)), (((1, 1), True, None, False),))
        self.assertIsNone(farthest(levels, (), 0, "near", (1, 1)))
        self.assertIsNone(sure_result(levels, (), 0, "down", (1, 1)))
        log = ((0, "member", (0, 1), (0, 1)),)
        self.assertEqual(results(levels, log, 0, "near", (1, 1)), (((0, 1), True, (2, 1), False),))
        self.assertEqual(results((("high", None),), log, 0, "near", (1, 1)), (((0, 1), True, (2, 1), True),))
        self.assertEqual(results((("high", None),), log, 0, "near", (-1, 1)), (((-2, 1), False, (0, 1), True),))
        self.assertEqual(results(levels, log, 0, "near", (-1, 1)), (((-2, 1), True, (0, 1), True),))
        self.assertEqual(farthest(levels, log, 0, "near", (1, 1)), ((1, 1), True))

    def test_gaps_without_a_log(self):
        for g, kind, point, expected in (
            ((0, 1), "down", (5, 1), (((-2, 1), False, (5, 1), True),)), ((0, 1), "near", (5, 1), (((3, 2), True, (17, 2), False),)),
            ((1, 2), "down", (5, 1), (((-4, 1), False, (5, 1), True),)), ((1, 2), "up", (5, 1), (((5, 1), True, (29, 2), False),)),
            ((1, 2), "up", (-5, 1), (((-5, 1), True, (4, 1), False),)), ((1, 2), "near", (0, 1), (((-14, 3), True, (14, 3), False),)),
            ((1, 2), "near", (100, 1), (((386, 5), True, (614, 5), False),)),
        ):
            self.assertEqual(results((("low", ((7, 1), g)),), (), 0, kind, point), expected)

    def test_a_fraction_alone_and_several_stretches(self):
        self.assertEqual(sure_result(SEVEN, BOTH, 0, "down", (1, 2)), (0, 1))
        self.assertEqual(results(SEVEN, BOTH, 0, "up", (17, 2)), (((10, 1), True, (10, 1), True),))
        self.assertEqual(row_status(SEVEN, BOTH, (0, "up", (17, 2), (10, 1))), "sure")
        two = (("low", ((5, 1), (0, 1))), ("high", None))
        steps = ((1, "near", (1, 1), (2, 1)), (1, "near", (3, 1), (4, 1)), (1, "near", (5, 1), (6, 1)))
        self.assertEqual(results(two, steps, 0, "up", (1, 1)), tuple(((x, 1), True, (x, 1), True) for x in (2, 4)))

    def test_farthest_not_reached(self):
        self.assertEqual(farthest(SEVEN, BOTH, 0, "near", (5, 1)), ((3, 1), False))
        self.assertEqual(farthest(SEVEN, BOTH, 0, "near", (0, 1)), ((0, 1), True))

    def test_points_that_are_told(self):
        for kind in KINDS:
            self.assertEqual(sure_result(SEVEN, BOTH, 0, kind, (10, 1)), (10, 1))

    def test_wider_and_narrower_levels(self):
        levels = (("low", ((2, 1), (0, 1))), ("low", None))
        self.assertEqual(results(levels, (), 1, "down", (0, 1)), (((-2, 1), False, (0, 1), True),))
        self.assertEqual(results(levels[::-1], (), 0, "down", (0, 1)), ((None, False, (0, 1), True),))
        log = ((0, "member", (-1, 1), (-1, 1)),)
        self.assertEqual(results(levels, log, 1, "down", (0, 1)), (((-1, 1), True, (0, 1), True),))
        log = ((1, "member", (-1, 1), (-1, 1)),)
        self.assertEqual(results(levels, log, 0, "down", (0, 1)), (((-2, 1), False, (0, 1), True),))

    def test_what_is_shut_out_grows_by_leaps(self):
        """Level 0 has the BARS (0, 4), (4, 9), [12, 18); for level 1 all from 9 on are free, 18 alone is told."""
        log = ((2, "near", (2, 1), (0, 1)), (2, "near", (13, 2), (4, 1)), (0, "up", (12, 1), (18, 1)))
        four, nine = ((4, 1), True, (4, 1), True), (9, 1)
        for width, expected in ((13, ((nine, True, (12, 1), False),)), (14, (four, (nine, True, (16, 1), False))),
                                (15, (four, (nine, True, (16, 1), False))), (18, (four, (nine, True, (18, 1), True)))):
            levels = (("low", (pair(width), (0, 1))), ("low", None), ("low", None))
            self.assertTrue(is_same(results(levels, log, 1, "near", (10, 1)), expected), width)

    def test_great_numbers(self):
        levels = tuple(("low", (pair(BIG), pair(Fraction(1, BIG)))) for _ in range(5))
        log = [(at % 5, "up", pair(BIG - at * 10 ** 28 - Fraction(1, BIG)), pair(BIG - at * 10 ** 28)) for at in range(60)]
        found = results(levels, log, 4, "near", (1, BIG))
        for y in ends_of(found):
            for way in (0, Fraction(1, BIG ** 3), Fraction(-1, BIG ** 3)):
                is_in = any(grids.is_in(stretch, y + way) for stretch in found)
                self.assertIs(is_in, exact.is_possible(levels, log + [(4, "near", (1, BIG), pair(y + way))]))

    def test_errors(self):
        for call in (lambda level, log: results(SEVEN, log, level, "down", (1, 1)),
                     lambda level, log: sure_result(SEVEN, log, level, "up", (1, 1)),
                     lambda level, log: farthest(SEVEN, log, level, "near", (1, 1)),
                     lambda level, log: row_status(SEVEN, log, (level, "near", (1, 1), (1, 1))),
                     lambda level, log: row_status(SEVEN, log, (level, "member", (1, 1), (1, 1)))):
            for level in (1, -1):
                with self.assertRaises(NoPlace) as caught:
                    call(level, BAD)
                self.assertEqual(caught.exception.place, level)
            with self.assertRaises(Unfit):
                call(0, BAD)


if __name__ == "__main__":
    unittest.main()
