"""Section 9, gaps.py: whether CHAINS keep GAPS, judged by all neighbours in a window."""

import random
import unittest
from fractions import Fraction

from everyformat.chains import next_above, round_by
from everyformat.errors import NoPlace
from everyformat.gaps import keeps_gaps, shows, worst_gap
from everyformat.possible import is_possible
from tests import formats, grids
from tests.helpers import is_same
from tests.judges import pair, pairs, quotient

TWO = (("low", ((4, 1), (0, 1))), ("high", None))
CHAIN = (((6, 1), (4, 1)), ((((-3, 1), (0, 1), (2, 1), (5, 1)), ()), (((7, 2),), ())))
BIG = 10 ** 30


def worst_excess(gap, members):
    near = [x for x in members if abs(x) <= 2 * formats.SIZE]
    return max(grids.excess(gap, u, v) for u, v in zip(near, near[1:]))


class Window(unittest.TestCase):
    def test_worst_gaps(self):
        rng = random.Random(1)
        kept = []
        for _ in range(250):
            levels, chain, members = formats.some_chain(rng)
            worst = [None if gap is None else worst_excess(gap, some) for (_, gap), some in zip(levels, members)]
            kept.append(all(one is None or one <= 0 for one in worst))
            self.assertIs(keeps_gaps(levels, chain), kept[-1])
            for level, one in enumerate(worst):
                self.check_worst(levels, chain, level, one, members[level])
        self.assertTrue(30 < sum(kept) < 220)

    def check_worst(self, levels, chain, level, worst, members):
        found = worst_gap(levels, chain, level)
        if worst is None:
            self.assertIsNone(found)
            return
        self.assertTrue(is_same(found, tuple(tuple(x) for x in found)))
        u, v = [quotient(x) for x in found]
        self.assertEqual(members.index(u) + 1, members.index(v))
        self.assertEqual(grids.excess(levels[level][1], u, v), worst)

    def test_shows(self):
        rng = random.Random(2)
        found = []
        for _ in range(100):
            levels, chain, members = formats.some_chain(rng)
            log = []
            for _ in range(8):
                level, kind = rng.randrange(len(levels)), rng.choice(["down", "up", "near"])
                x = formats.some_point(rng, members[level])
                log.append((level, kind, pair(x), pair(formats.rounded(levels, members[level], level, kind, x))))
            found.append(keeps_gaps(levels, chain))
            self.assertIs(shows(levels, chain, tuple(log)), found[-1])
            self.assertIs(shows(levels, chain, ()), found[-1])
            level, kind, x, result = log[0]
            wrong = (level, kind, x, next_above(levels, chain, level, result))
            self.assertIs(shows(levels, chain, tuple(log) + (wrong,)), False)
            if found[-1]:
                self.assertIs(is_possible(levels, tuple(log)), True)
        self.assertTrue(any(found) and not all(found))


class Edges(unittest.TestCase):
    def test_where_the_worst_gap_is(self):
        one, half = (1, 1), (1, 2)
        for chain, gap, expected in (
            (((6, 1), (4, 1)), (one, half), (-6, 6)), (((1, 2), (4, 1)), (one, (0, 1)), None),
            (((1, 2), (4, 1)), (one, (1, 10)), None),
        ):
            found = worst_gap((("low", gap),), (chain, (((), ()),)), 0)
            if expected:
                self.assertEqual(found, pairs(*expected))
            else:
                self.assertIn(found, (pairs(Fraction(1, 2), Fraction(9, 2)), pairs(Fraction(-9, 2), Fraction(-1, 2))))

    def test_within_fills(self):
        levels = (("low", ((1, 1), (1, 2))),)
        for low, high, step, expected in ((-8, 8, 4, [(-4, 0), (0, 4)]), (-6, 10, 4, [(-2, 2)]), (2, 10, 4, [(2, 6)]),
                                          (-10, -2, 4, [(-6, -2)]), (-9, -1, 4, [(-5, -1)]), (-8, 0, 4, [(-4, 0)]),
                                          (0, 8, 4, [(0, 4)]), (-7, 9, 4, [(-3, 1), (1, 5)]), (-9, 7, 4, [(-1, 3), (-5, -1)])):
            marks = pairs(*[at for at in range(-10, 11) if at < low or at > high])
            chain = (pairs(11, 1), ((marks, (pairs(low, high, step),)),))
            found = worst_gap(levels, chain, 0)
            self.assertIn(found, [pairs(*one) for one in expected])

    def test_fills_of_many_members(self):
        levels = (("low", ((1, 1), (1, 2))),)
        chain = (pairs(2 * BIG, 1), (((), (pairs(-BIG + Fraction(1, 3), BIG + Fraction(1, 3), 1),)),))
        self.assertEqual(grids.excess(levels[0][1], Fraction(-2, 3), Fraction(1, 3)), Fraction(-1, 6))
        self.assertIs(keeps_gaps(levels, chain), False)
        longer = (("low", (pair(BIG), (1, 2))),)
        self.assertIs(keeps_gaps(longer, chain), True)
        narrow = (("low", ((1, 2), (0, 1))),)
        self.assertIs(keeps_gaps(narrow, chain), False)

    def test_an_excess_of_just_zero(self):
        chain = (pairs(3, 2), ((pairs(-1, 1), ()),))
        for width, expected in ((2, True), (Fraction(2 * BIG - 1, BIG), False), (Fraction(2 * BIG + 1, BIG), True)):
            self.assertIs(keeps_gaps((("low", (pair(width), (0, 1))),), chain), expected)

    def test_levels_with_and_without_gaps(self):
        self.assertIs(keeps_gaps(TWO, CHAIN), True)
        self.assertIs(keeps_gaps((TWO[0], TWO[0]), CHAIN), True)
        self.assertIs(keeps_gaps((TWO[0], ("low", ((3, 1), (0, 1)))), CHAIN), False)
        self.assertIs(keeps_gaps((TWO[1], ("low", ((3, 1), (1, 3)))), CHAIN), True)
        self.assertIsNone(worst_gap(TWO, CHAIN, 1))
        self.assertIs(keeps_gaps((("low", None),) * 2, CHAIN), True)

    def test_wider_members_do_not_help_narrower_levels(self):
        chain = (pairs(6, 1), ((pairs(-3, 3), ()), (pairs(0), ())))
        gap = ((3, 1), (0, 1))
        self.assertIs(keeps_gaps((("low", gap), ("low", None)), chain), False)
        self.assertIs(keeps_gaps((("low", None), ("low", gap)), chain), True)
        self.assertEqual(worst_gap((("low", gap), ("low", gap)), chain, 0), pairs(-3, 3))

    def test_rows_of_all_kinds(self):
        log = ((0, "near", (1, 1), (0, 1)), (1, "near", (17, 4), (5, 1)), (1, "member", (7, 2), (7, 2)),
               (0, "down", (7, 2), (2, 1)), (0, "up", (7, 2), (5, 1)))
        self.assertIs(shows(TWO, CHAIN, log), True)
        self.assertIs(shows(TWO, CHAIN, log + ((0, "member", (7, 2), (7, 2)),)), False)
        self.assertIs(shows((("high", TWO[0][1]), TWO[1]), CHAIN, log), False)
        self.assertEqual(round_by(TWO, CHAIN, 0, "near", (1, 1)), (0, 1))

    def test_no_level(self):
        for level in (2, -1):
            with self.assertRaises(NoPlace) as caught:
                worst_gap(TWO, CHAIN, level)
            self.assertEqual(caught.exception.place, level)


if __name__ == "__main__":
    unittest.main()
