"""Section 10: CHAINS built for LOGS, judged by all their members, one by one."""

import random
import unittest
from fractions import Fraction

from everyformat.build import build_chain, chain_with, chain_without, least_step, parted_by
from everyformat.chains import is_chain
from everyformat.chains import is_member as is_member_of
from everyformat.errors import CanNot, NoPlace
from everyformat.gaps import shows
from everyformat.told import member_status
from tests import exact, grids
from tests.helpers import has_list
from tests.judges import pair, pairs

BIG = 10 ** 30
SEVEN = (("low", ((7, 1), (0, 1))),)
FAR = ((0, "down", (1, 1), (0, 1)), (0, "up", (8, 1), (10, 1)))
TIE = ((0, "near", (1, 1), (0, 1)),)
TWO = (("low", ((2, 1), (0, 1))),)


def or_none(call, *values):
    try:
        return call(*values)
    except CanNot:
        return None


class Built(unittest.TestCase):
    def check_chain(self, levels, chain, log):
        self.assertIs(is_chain(levels, chain), True)
        self.assertTrue(exact.shows(levels, chain, log), (levels, log, chain))
        self.assertIs(shows(levels, chain, log), True)

    def test_a_chain_exactly_for_possible_logs(self):
        rng = random.Random(1)
        built = 0
        for _ in range(150):
            levels, log = grids.some_log(rng, 6)
            chain = or_none(build_chain, levels, log)
            self.assertIs(chain is not None, exact.is_possible(levels, log))
            if chain is not None:
                built += 1
                self.check_chain(levels, chain, log)
        self.assertTrue(40 < built < 130)

    def test_with_and_without(self):
        rng = random.Random(2)
        seen = {}
        for _ in range(50):
            levels, log = exact.possible_log(rng, 6)
            for x in exact.interesting(rng, levels, log, 6):
                level = rng.randrange(len(levels))
                status = member_status(levels, log, level, x)
                seen[status] = seen.get(status, 0) + 1
                self.check_parted(levels, log, level, x, status)
        self.assertTrue(all(seen[word] > 20 for word in ("sure", "some", "never")), seen)

    def check_parted(self, levels, log, level, x, status):
        have, lack = or_none(chain_with, levels, log, level, x), or_none(chain_without, levels, log, level, x)
        self.assertIs(have is not None, status != "never")
        self.assertIs(lack is not None, status != "sure")
        self.assertIs(have is not None, exact.is_possible(levels, log + exact.wished([(level, x)])))
        self.assertIs(lack is not None, exact.is_possible(levels, log, [(level, x)]))
        self.assertEqual(parted_by(levels, log, level, x), (have, lack))
        if have is not None:
            self.check_chain(levels, have, log)
            self.assertTrue(exact.is_member(have, level, x))
        if lack is not None:
            self.check_chain(levels, lack, log)
            self.assertFalse(exact.is_member(lack, level, x))

    def test_logs_that_are_not_possible(self):
        bad = FAR + ((0, "near", (5, 1), (0, 1)),)
        for call in (build_chain, lambda one, log: chain_with(one, log, 0, (20, 1)),
                     lambda one, log: chain_without(one, log, 0, (20, 1))):
            with self.assertRaises(CanNot):
                call(SEVEN, bad)
        self.assertEqual(parted_by(SEVEN, bad, 0, (20, 1)), (None, None))

    def test_empty_logs(self):
        for levels in (SEVEN, (("high", None),), (("low", None), ("low", ((1, 2), (1, 2))), ("high", None))):
            self.check_chain(levels, build_chain(levels, ()), ())
            for x in ((0, 1), (-7, 2)):
                self.check_parted(levels, (), len(levels) - 1, x, "some")


class Edges(unittest.TestCase):
    def test_ends_that_are_in_and_out(self):
        for side in ("low", "high"):
            levels = ((side, ((4, 1), (0, 1))), ("low", None))
            for log in (((0, "near", (1, 1), (0, 1)),), ((1, "near", (1, 1), (2, 1)),), ((0, "down", (3, 1), (0, 1)),),
                        ((1, "up", (0, 1), (3, 1)),), ((0, "down", (1, 1), (0, 1)), (0, "up", (2, 1), (4, 1)))):
                chain = build_chain(levels, log)
                self.assertTrue(exact.shows(levels, chain, log))

    def test_gaps_that_are_just_kept(self):
        levels = (("low", ((2, 1), (1, 2))),)
        log = ((0, "down", (5, 1), (4, 1)), (0, "up", (6, 1), (8, 1)))
        chain = build_chain(levels, log)
        self.assertTrue(exact.shows(levels, chain, log))
        self.assertEqual(parted_by(levels, log, 0, (4, 1))[1], None)
        just = ((0, "down", (3, 1), (0, 1)), (0, "up", (4, 1), (7, 1)))
        self.assertTrue(exact.shows(SEVEN, build_chain(SEVEN, just), just) or just)
        low = (("low", ((6, 1), (0, 1))),)
        joined = ((0, "down", (3, 1), (0, 1)), (0, "up", (3, 1), (6, 1)))
        self.assertTrue(exact.shows(low, build_chain(low, joined), joined))
        with self.assertRaises(CanNot):
            build_chain((("low", (pair(Fraction(6 * BIG - 1, BIG)), (0, 1))),), joined)

    def test_little_room_between_two_bars(self):
        levels = (("low", ((3, 2), (0, 1))),)
        for room in (Fraction(1, 1000), Fraction(1, BIG)):
            log = ((0, "down", (1, 1), (0, 1)), (0, "up", pair(1 + room), (2, 1)))
            self.assertTrue(exact.shows(levels, build_chain(levels, log), log))

    def test_a_bar_that_begins_where_another_level_ends(self):
        levels = (("low", ((9, 1), (0, 1))), ("high", None), ("low", ((5, 2), (0, 1))))
        log = ((2, "near", (1, 1), (2, 1)), (1, "down", (4, 1), (2, 1)), (0, "up", (4, 1), (7, 1)))
        chain = build_chain(levels, log)
        self.assertTrue(exact.shows(levels, chain, log))

    def test_levels_without_a_gap_below_and_above(self):
        for gaps in ((None, ((3, 1), (0, 1)), None), (((3, 1), (0, 1)), None, ((2, 1), (0, 1))), (None, None, None)):
            levels = tuple(("low", gap) for gap in gaps)
            log = ((0, "near", (1, 2), (-1, 1)), (1, "down", (5, 2), (2, 1)), (2, "up", (5, 2), (4, 1)))
            if exact.is_possible(levels, log):
                self.assertTrue(exact.shows(levels, build_chain(levels, log), log))
            else:
                self.assertIsNone(or_none(build_chain, levels, log))

    def test_least_step(self):
        gaps = [((4, 1), (0, 1)), None, ((3, 1), (1, 2)), ((7, 2), (0, 1)), None]
        levels = [("low", gap) for gap in gaps]
        self.assertEqual([least_step(levels, level) for level in range(5)], [(3, 1), (3, 1), (3, 1), (7, 2), None])
        self.assertEqual(least_step(levels[3:], 0), (7, 2))

    def test_at_the_bounds(self):
        levels = tuple(("high" if at % 2 else "low", (pair(Fraction(BIG, 3)), pair(Fraction(1, BIG)))) for at in range(5))
        log = []
        for at in range(30):
            low, high = -BIG + 1 + at * (BIG // 16), -BIG + 2 + at * (BIG // 16) + Fraction(1, BIG - at)
            log += [(at % 5, "down", pair(high), pair(low)), ((at + 1) % 5, "near", pair(high), pair(high))]
        self.assertIsNone(or_none(build_chain, levels, log))
        log = [(row[0], row[1], row[2], pair(Fraction(*row[2]) - Fraction(1, BIG)) if row[1] == "down" else row[3])
               for row in log if row[1] == "down"] + [(4, "near", (1, BIG), (-1, 1)), (0, "up", (BIG - 1, 1), (BIG, 1))]
        chain = build_chain(levels, log)
        self.assertTrue(is_chain(levels, chain) and shows(levels, chain, log))
        lack = chain_without(levels, log, 4, (BIG, 7))
        self.assertTrue(shows(levels, lack, log) and not is_member_of(levels, lack, 4, (BIG, 7)))

    def test_sixty_rows(self):
        levels = tuple(("low", (pair(Fraction(9, 2)), pair(Fraction(1, 9)))) for at in range(5))
        log = [(at % 5, "down", (2 * at + 1, 1), (2 * at, 1)) for at in range(30)]
        log += [(at % 5, "up", (2 * at + 1, 1), (2 * at + 2, 1)) for at in range(29)] + [(2, "member", (-7, 3), (-7, 3))]
        chain = build_chain(levels, log)
        self.assertTrue(is_chain(levels, chain) and exact.shows(levels, chain, log))
        self.assertFalse(has_list(chain))

    def test_no_level_ahead_of_all(self):
        bad = FAR + ((0, "near", (5, 1), (0, 1)),)
        for call in (lambda level: chain_with(SEVEN, bad, level, (1, 1)), lambda level: least_step(SEVEN, level),
                     lambda level: chain_without(SEVEN, bad, level, (1, 1)),
                     lambda level: parted_by(SEVEN, bad, level, (1, 1))):
            for level in (1, -1, 7):
                with self.assertRaises(NoPlace) as caught:
                    call(level)
                self.assertEqual(caught.exception.place, level)

    def test_sure_without_being_told(self):
        have, lack = parted_by(TWO, TIE, 0, (2, 1))
        self.assertIsNone(lack)
        self.assertTrue(exact.is_member(have, 0, (2, 1)) and exact.shows(TWO, have, TIE))
        self.assertTrue(exact.is_member(build_chain(TWO, TIE), 0, (2, 1)))
        self.assertIsNone(or_none(chain_with, TWO, TIE, 0, (1, 1)))
        self.assertEqual(pairs(2), ((2, 1),))


if __name__ == "__main__":
    unittest.main()
