"""Section 9, chains.py: CHAINS, judged against all their members in a window, counted one by one."""

import random
import unittest
from fractions import Fraction

from everyformat.chains import (
    count_between, holds, is_chain, is_member, mirrored_chain, next_above, next_below, round_by,
)
from everyformat.errors import NoPlace
from everyformat.possible import is_possible
from everyformat.rows import mirrored
from tests import formats
from tests.helpers import ODD_THINGS, badly_reduced, is_same, nearly
from tests.judges import pair, pairs

ONE = (("low", None),)
TWO = (("low", ((4, 1), (0, 1))), ("high", None))
STEPS = (((10, 1), (3, 1)), ((((0, 1),), (((1, 1), (4, 1), (3, 2)),)),))
CHAIN = (((6, 1), (4, 1)), ((((-3, 1), (0, 1), (2, 1), (5, 1)), ()), (((7, 2),), ())))
EMPTY = (((1, 1), (1, 1)), (((), ()),))
BIG = 10 ** 30
TURNED = {"down": "up", "up": "down", "near": "near"}


def part(marks, *fills):
    return (pairs(*marks), tuple(pairs(*fill) for fill in fills))


class IsChain(unittest.TestCase):
    def test_chains(self):
        self.assertIs(is_chain(ONE, STEPS), True)
        self.assertIs(is_chain(TWO, CHAIN), True)
        self.assertIs(is_chain(ONE, CHAIN), False)
        self.assertIs(is_chain(TWO, STEPS), False)
        self.assertIs(is_chain(ONE, EMPTY), True)
        self.assertIs(is_chain((("low", None),) * 5, (EMPTY[0], EMPTY[1] * 5)), True)

    def test_what_lies_where(self):
        far = ((10, 1), (3, 1))
        right = [part([-9, 0, 9]), part([], (-9, 9, 6)), part([5], (-9, 0, 1), (1, 4, Fraction(3, 7))),
                 part([Fraction(-99, 10)], (-9, Fraction(-17, 2), Fraction(1, 2)))]
        wrong = [part([-10]), part([10]), part([0, 0]), part([1, 0]), part([11]), part([-11]),
                 part([], (0, 10, 1)), part([], (-10, 0, 1)), part([], (0, 0, 1)), part([], (0, 1, 2)), part([], (0, 1, 0)),
                 part([], (0, -1, -1)), part([], (0, 1, -1)), part([], (0, -1, 1)), part([], (0, 5, 2)), part([0], (0, 1, 1)),
                 part([1], (0, 1, 1)), part([Fraction(1, 2)], (0, 1, 1)), part([], (0, 1, 1), (1, 2, 1)),
                 part([], (4, 5, 1), (0, 1, 1)), part([], (0, 9, 1), (4, 5, 1)), part([], (0, 1, 1), (0, 1, 1)),
                 part([4, 2]), part([], (9, 12, 3)), part([], (-12, -9, 3)), part([], (0, Fraction(5, 2), 1))]
        for one in right:
            self.assertIs(is_chain(ONE, (far, (one,))), True, one)
            self.assertIs(is_chain(TWO, (far, (part([]), one))), True, one)
        for one in wrong:
            self.assertIs(is_chain(ONE, (far, (one,))), False, one)
            self.assertIs(is_chain(TWO, (far, (one, part([])))), False, one)

    def test_parts_lie_apart_from_one_another(self):
        far = ((10, 1), (3, 1))
        for one, other, expected in ((part([1]), part([2]), True), (part([1]), part([1]), False),
                                     (part([], (0, 2, 2)), part([1]), False), (part([1]), part([], (0, 2, 2)), False),
                                     (part([0]), part([], (0, 2, 2)), False), (part([3]), part([], (0, 2, 2)), True),
                                     (part([], (0, 2, 2)), part([], (1, 3, 2)), False),
                                     (part([], (0, 2, 2)), part([], (2, 4, 2)), False),
                                     (part([], (4, 6, 2)), part([], (1, 3, 2)), True)):
            self.assertIs(is_chain(TWO, (far, (one, other))), expected)

    def test_far(self):
        for start, step, expected in (((1, 1), (1, 1), True), ((0, 1), (1, 1), False), ((1, 1), (0, 1), False),
                                      ((-1, 1), (1, 1), False), ((1, 1), (-1, 1), False), ((1, BIG), (BIG, 1), True)):
            self.assertIs(is_chain(ONE, ((start, step), (part([]),))), expected)

    def test_nearly_chains(self):
        for levels, chain in ((ONE, STEPS), (TWO, CHAIN)):
            paths = [(0, 0), (0, 1), (1, 0, 0, 0)] + ([(1, 0, 1, 0, at) for at in range(3)] if chain == STEPS else [])
            for thing in nearly(chain) + [one for path in paths for one in badly_reduced(chain, path)]:
                self.assertIs(is_chain(levels, thing), False, thing)
        for thing in ODD_THINGS:
            self.assertIs(is_chain(ONE, thing), False)
        self.assertIs(is_chain(ONE, STEPS + ((),)), False)
        self.assertIs(is_chain(ONE, (STEPS[0], STEPS[1] + ((),))), False)
        self.assertIs(is_chain(ONE, (STEPS[0], (STEPS[1][0] + ((),),))), False)
        self.assertIs(is_chain(ONE, (STEPS[0] + ((1, 1),), STEPS[1])), False)

    def test_many_marks(self):
        chain = (pairs(10 ** 6, 1), (part(range(3000)),))
        self.assertIs(is_chain(ONE, chain), True)
        marks = chain[1][0][0]
        self.assertIs(is_chain(ONE, (chain[0], ((marks[:1500] + marks[1499:], ()),))), False)


class Window(unittest.TestCase):
    """CHAINS at random, and points at members, half way between, at random, and far out."""

    def each_sample(self, seed, many):
        rng = random.Random(seed)
        for _ in range(many):
            levels, chain, members = formats.some_chain(rng)
            self.assertTrue(is_chain(levels, chain))
            for _ in range(25):
                level = rng.randrange(len(levels))
                yield rng, levels, chain, level, members[level], formats.some_point(rng, members[level])

    def test_members(self):
        for _, levels, chain, level, members, x in self.each_sample(1, 60):
            self.assertIs(is_member(levels, chain, level, pair(x)), x in members)

    def test_rounding(self):
        for rng, levels, chain, level, members, x in self.each_sample(2, 60):
            for kind in ("down", "up", "near"):
                expected = pair(formats.rounded(levels, members, level, kind, x))
                self.assertTrue(is_same(round_by(levels, chain, level, kind, pair(x)), expected))
                self.assertIs(holds(levels, chain, (level, kind, pair(x), expected)), True)
                other = pair(rng.choice(formats.inmost(members)))
                self.assertIs(holds(levels, chain, (level, kind, pair(x), other)), other == expected)
            self.assertIs(holds(levels, chain, (level, "member", pair(x), pair(x))), x in members)

    def test_neighbours(self):
        for _, levels, chain, level, members, x in self.each_sample(3, 60):
            self.assertEqual(next_above(levels, chain, level, pair(x)), pair(min(one for one in members if one > x)))
            self.assertEqual(next_below(levels, chain, level, pair(x)), pair(max(one for one in members if one < x)))

    def test_counts(self):
        for rng, levels, chain, level, members, x in self.each_sample(4, 60):
            y = formats.some_point(rng, members)
            expected = len([one for one in members if x <= one <= y])
            self.assertTrue(is_same(count_between(levels, chain, level, pair(x), pair(y)), expected))
            self.assertEqual(count_between(levels, chain, level, pair(x), pair(x)), int(x in members))

    def test_mirrored(self):
        for _, levels, chain, level, members, x in self.each_sample(5, 40):
            turned, (sides, _) = mirrored_chain(levels, chain), mirrored(levels, ())
            self.assertTrue(is_chain(levels, turned) and is_same(mirrored_chain(levels, turned), chain))
            self.assertEqual(turned[0], chain[0])
            self.assertIs(is_member(sides, turned, level, pair(-x)), x in members)
            for kind, back in TURNED.items():
                expected = pair(-formats.rounded(levels, members, level, kind, x))
                self.assertEqual(round_by(sides, turned, level, back, pair(-x)), expected)

    def test_wide_then_narrow(self):
        for rng, levels, chain, level, _, x in self.each_sample(6, 40):
            narrow = rng.randint(0, level)
            for kind in ("down", "up"):
                wide = round_by(levels, chain, level, kind, pair(x))
                plain = round_by(levels, chain, narrow, kind, pair(x))
                self.assertEqual(round_by(levels, chain, narrow, kind, wide), plain)

    def test_what_formats_round_is_possible(self):
        rng = random.Random(7)
        for _ in range(40):
            levels, chain, members = formats.some_chain(rng)
            plain = tuple((side, None) for side, _ in levels)
            log = []
            for _ in range(30):
                level, kind = rng.randrange(len(levels)), rng.choice(["down", "up", "near"])
                point = pair(formats.some_point(rng, members[level]))
                log.append((level, kind, point, round_by(levels, chain, level, kind, point)))
            self.assertIs(is_possible(plain, tuple(log)), True)


class Edges(unittest.TestCase):
    def test_chains_without_own_members(self):
        for x, down, up in ((0, -1, 1), (1, 1, 1), (-1, -1, -1), (Fraction(5, 2), 2, 3), (Fraction(-5, 2), -3, -2)):
            self.assertEqual(round_by(ONE, EMPTY, 0, "down", pair(x)), pair(down))
            self.assertEqual(round_by(ONE, EMPTY, 0, "up", pair(x)), pair(up))
        for side, low, high in (("low", -1, 2), ("high", 1, 3)):
            self.assertEqual(round_by(((side, None),), EMPTY, 0, "near", (0, 1)), pair(low))
            self.assertEqual(round_by(((side, None),), EMPTY, 0, "near", (5, 2)), pair(high))
            self.assertEqual(round_by(((side, None),), EMPTY, 0, "near", (-5, 2)), pair(-3 if side == "low" else -2))
        self.assertEqual(next_above(ONE, EMPTY, 0, (-1, 1)), (1, 1))
        self.assertEqual(next_below(ONE, EMPTY, 0, (1, 1)), (-1, 1))
        self.assertEqual(count_between(ONE, EMPTY, 0, (-1, 1), (1, 1)), 2)
        self.assertEqual(count_between(ONE, EMPTY, 0, (-1, 2), (1, 2)), 0)

    def test_ties_go_to_the_side_of_the_level(self):
        levels = (("low", None), ("high", None))
        chain = (((10, 1), (1, 1)), (part([0, 4]), part([2])))
        self.assertEqual(round_by(levels, chain, 0, "near", (2, 1)), (0, 1))
        self.assertEqual(round_by(levels, chain, 1, "near", (2, 1)), (2, 1))
        self.assertEqual(round_by(levels, chain, 1, "near", (1, 1)), (2, 1))
        self.assertEqual(round_by(levels, chain, 1, "near", (-5, 1)), (0, 1))
        self.assertEqual(round_by(levels, chain, 0, "near", (-5, 1)), (-10, 1))

    def test_low_above_high(self):
        self.assertEqual(count_between(ONE, STEPS, 0, (20, 1), (-20, 1)), 0)
        self.assertEqual(count_between(ONE, STEPS, 0, (1, 1), (0, 1)), 0)
        self.assertEqual(count_between(ONE, STEPS, 0, (0, 1), (0, 1)), 1)

    def test_great_numbers(self):
        chain = (pairs(BIG, Fraction(1, BIG)), (part([-1, Fraction(1, BIG)], (2, BIG - 1, Fraction(BIG - 3, BIG))), part([0])))
        self.assertIs(is_chain(TWO, chain), True)
        self.assertEqual(count_between(TWO, chain, 0, pair(-BIG), pair(BIG)), 2 + 2 + BIG + 1)
        self.assertEqual(count_between(TWO, chain, 1, pair(-BIG - 1), pair(BIG + 1)), 2 * BIG + 2 + 3 + BIG + 1)
        point = Fraction(3) + Fraction(1, BIG)
        step = Fraction(BIG - 3, BIG)
        self.assertEqual(round_by(TWO, chain, 0, "down", pair(point)), pair(2 + step))
        self.assertEqual(next_above(TWO, chain, 0, pair(2 + step)), pair(2 + 2 * step))
        self.assertEqual(next_above(TWO, chain, 1, pair(BIG)), pair(BIG + Fraction(1, BIG)))
        self.assertEqual(next_below(TWO, chain, 1, pair(-BIG)), pair(-BIG - Fraction(1, BIG)))
        far = pair(BIG + Fraction(3, 2 * BIG))
        self.assertEqual(round_by(TWO, chain, 0, "near", far), pair(BIG + Fraction(1, BIG)))
        self.assertEqual(round_by(TWO, chain, 1, "near", far), pair(BIG + Fraction(2, BIG)))

    def test_three_hundred_marks_and_fills(self):
        marks, fills = [4 * at for at in range(-75, 75)], [(4 * at + 1, 4 * at + 3, Fraction(2, 3)) for at in range(-75, 75)]
        levels = (("low", None),) * 5
        chain = (pairs(400, 7), (part(marks[::2]), part([], *fills[::2]), part(marks[1::2]), part([], *fills[1::2]), part([])))
        self.assertIs(is_chain(levels, chain), True)
        self.assertEqual(count_between(levels, chain, 4, pair(-400), pair(400)), 2 + 150 + 600)
        for at in range(-75, 74):
            x = pair(4 * at + Fraction(7, 2))
            self.assertEqual(round_by(levels, chain, 4, "down", x), pair(4 * at + 3))
            self.assertEqual(round_by(levels, chain, 4, "up", x), pair(4 * at + 4))
            self.assertEqual(round_by(levels, chain, 4, "down", pair(4 * at + 2)), pair(4 * at + Fraction(5, 3)))

    def test_members_of_wider_levels_are_none_of_narrower_ones(self):
        self.assertIs(is_member(TWO, CHAIN, 0, (7, 2)), False)
        self.assertIs(is_member(TWO, CHAIN, 1, (7, 2)), True)
        self.assertIs(is_member(TWO, CHAIN, 1, (2, 1)), True)
        self.assertIs(holds(TWO, CHAIN, (0, "member", (7, 2), (7, 2))), False)
        self.assertIs(holds(TWO, CHAIN, (1, "member", (7, 2), (7, 2))), True)

    def test_no_level(self):
        x = (1, 1)
        for level in (2, -1, 9):
            calls = [
                lambda: is_member(TWO, CHAIN, level, x), lambda: round_by(TWO, CHAIN, level, "near", x),
                lambda: next_above(TWO, CHAIN, level, x), lambda: next_below(TWO, CHAIN, level, x),
                lambda: count_between(TWO, CHAIN, level, x, (0, 1)), lambda: holds(TWO, CHAIN, (level, "down", x, x)),
                lambda: holds(TWO, CHAIN, (level, "member", x, x)),
            ]
            for call in calls:
                with self.assertRaises(NoPlace) as caught:
                    call()
                self.assertEqual(caught.exception.place, level)


if __name__ == "__main__":
    unittest.main()
