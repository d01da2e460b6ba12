"""Section 11: what a LOG says of members, judged by LOGS with the WISHES as ROWS and as points that are shut out."""

import random
import unittest
from fractions import Fraction

from everyformat.errors import NoPlace, Unfit
from everyformat.told import can_have, free_stretches, member_status, sure_members, why_not
from tests import exact, grids
from tests.helpers import is_same
from tests.judges import pair, pairs, quotient

BIG = 10 ** 30
ONE = (("low", ((2, 1), (0, 1))),)
NEAR = ((0, "near", (1, 1), (0, 1)),)
TWO = (("low", ((5, 1), (0, 1))), ("high", None))
STEPS = ((1, "near", (1, 1), (2, 1)), (1, "near", (3, 1), (4, 1)), (1, "near", (5, 1), (6, 1)))
BAD = ((0, "down", (1, 1), (0, 1)), (0, "member", (1, 2), (1, 2)))


def status_of(levels, log, level, x):
    """The status by two questions: whether log goes with x as a member, and whether it goes without it."""
    if not exact.is_possible(levels, log + exact.wished([(level, x)])):
        return "never"
    return "some" if exact.is_possible(levels, log, [(level, x)]) else "sure"


def why_by_judge(levels, log, members, others):
    for number, (level, x) in enumerate(members):
        if any(row[0] >= level and grids.shuts_out(levels, row, quotient(x)) for row in log):
            return ("shut", number)
    for number, (level, x) in enumerate(others):
        known = [row[3] for row in log if row[0] <= level] + [y for narrow, y in members if narrow <= level]
        if x in known:
            return ("told", number)
    for level, (_, gap) in enumerate(levels):
        for bar in exact.bars(levels, log, level, others):
            if not exact.is_let(gap, bar):
                return ("long", level, bar)
    return None


class Random(unittest.TestCase):
    def test_statuses(self):
        rng = random.Random(1)
        for _ in range(80):
            levels, log = exact.possible_log(rng, 6)
            for x in exact.interesting(rng, levels, log, 8):
                for level in range(len(levels)):
                    self.assertEqual(member_status(levels, log, level, x), status_of(levels, log, level, x))

    def test_sure_members(self):
        rng = random.Random(2)
        untold = 0
        for _ in range(120):
            levels, log = exact.possible_log(rng, 7)
            for level in range(len(levels)):
                sure = sure_members(levels, log, level)
                expected = [x for x in exact.grid_for(log) if status_of(levels, log, level, pair(x)) == "sure"]
                self.assertTrue(is_same(sure, pairs(*expected)))
                untold += len([x for x in sure if x not in [row[3] for row in log]])
        self.assertGreater(untold, 15)

    def test_free_stretches(self):
        rng = random.Random(3)
        for _ in range(80):
            levels, log = exact.possible_log(rng, 6)
            for level in range(len(levels)):
                rows, grid = [row for row in log if row[0] >= level], exact.grid_for(log)
                marks = [not any(grids.shuts_out(levels, row, x) for row in rows) for x in grid]
                self.assertTrue(is_same(free_stretches(levels, log, level), grids.unmarked(marks, grid)))

    def test_wishes(self):
        rng = random.Random(4)
        words = {}
        for _ in range(400):
            levels, log = exact.possible_log(rng, 5)
            some = exact.interesting(rng, levels, log, 2)
            some += [x for bar in exact.bars(levels, log, 0) for x in (bar[0], bar[2])]
            members = tuple((rng.randrange(len(levels)), rng.choice(some)) for _ in range(rng.randint(0, 1)))
            if rng.random() < 0.6:
                some = [x for x in some if x not in [row[3] for row in log]] or some
            others = tuple((rng.randrange(len(levels)), rng.choice(some)) for _ in range(rng.randint(0, 4)))
            expected = why_by_judge(levels, log, members, others)
            self.assertTrue(is_same(why_not(levels, log, members, others), expected), (levels, log, members, others))
            self.assertIs(can_have(levels, log, members, others), expected is None)
            self.assertIs(expected is None, exact.is_possible(levels, log + exact.wished(members), others))
            word = None if expected is None else expected[0]
            words[word] = words.get(word, 0) + 1
        self.assertTrue(all(words[word] > 6 for word in (None, "shut", "told", "long")), words)


class Edges(unittest.TestCase):
    def test_no_wishes(self):
        self.assertIsNone(why_not(TWO, STEPS, (), ()))
        self.assertIs(can_have(TWO, STEPS, (), ()), True)
        self.assertIs(can_have(TWO, (), ((0, (0, 1)),), ((0, (1, 1)),)), True)

    def test_one_of_two_is_a_member(self):
        self.assertEqual([member_status(TWO, STEPS, 0, (x, 1)) for x in (2, 4)], ["some", "some"])
        self.assertIs(can_have(TWO, STEPS, (), ((0, (2, 1)),)), True)
        self.assertIs(can_have(TWO, STEPS, (), ((0, (2, 1)), (0, (4, 1)))), False)
        self.assertEqual(why_not(TWO, STEPS, (), ((0, (4, 1)), (0, (2, 1)))), ("long", 0, ((0, 1), False, (6, 1), False)))

    def test_wishes_at_wider_levels(self):
        self.assertEqual(why_not(TWO, STEPS, (), ((1, (3, 1)), (1, (2, 1)))), ("told", 1))
        self.assertEqual(why_not(TWO, STEPS, ((0, (9, 1)),), ((1, (9, 1)),)), ("told", 0))
        self.assertIsNone(why_not(TWO, STEPS, ((1, (9, 1)),), ((0, (9, 1)),)))
        self.assertEqual(why_not(TWO, STEPS, ((0, (9, 1)), (0, (1, 1))), ((1, (9, 1)),)), ("shut", 1))
        narrow = (("low", ((2, 1), (0, 1))), ("low", None))
        self.assertEqual(why_not(narrow, (), (), tuple((1, (x, 2)) for x in range(20))), None)
        self.assertEqual(why_not(narrow, ((0, "down", (3, 2), (0, 1)),), (), ()), None)
        self.assertEqual(why_not(narrow, ((0, "near", (1, 1), (0, 1)),), (), ((1, (2, 1)),)),
                         ("long", 0, ((0, 1), False, (2, 1), True)))

    def test_told_at_narrower_and_wider_levels(self):
        log = ((1, "member", (3, 1), (3, 1)), (0, "member", (8, 1), (8, 1)))
        self.assertEqual([member_status(TWO, log, level, (3, 1)) for level in (0, 1)], ["some", "sure"])
        self.assertEqual([member_status(TWO, log, level, (8, 1)) for level in (0, 1)], ["sure", "sure"])
        self.assertEqual((sure_members(TWO, log, 0), sure_members(TWO, log, 1)), (((8, 1),), ((3, 1), (8, 1))))

    def test_sure_at_a_wider_level_for_the_gap_of_a_narrower_one(self):
        levels = (("low", ((2, 1), (0, 1))), ("low", None))
        self.assertEqual(sure_members(levels, NEAR, 1), ((0, 1), (2, 1)))
        self.assertEqual(member_status(levels[::-1], NEAR, 0, (2, 1)), "some")

    def test_empty_logs(self):
        for levels in (ONE, TWO, (("low", None),) * 5):
            level = len(levels) - 1
            self.assertEqual(sure_members(levels, (), level), ())
            self.assertEqual(free_stretches(levels, (), level), ((None, False, None, False),))
            self.assertEqual(member_status(levels, (), level, (1, 3)), "some")

    def test_gaps_that_are_just_kept(self):
        for g, expected in (((0, 1), "sure"), ((1, 2), "some")):
            levels = (("low", ((2, 1), g)),)
            log = ((0, "near", (5, 1), (4, 1)),)
            self.assertEqual(member_status(levels, log, 0, (6, 1)), expected)
        levels = (("low", (pair(Fraction(2 * BIG + 1, BIG)), (0, 1))),)
        self.assertEqual(member_status(levels, NEAR, 0, (2, 1)), "some")

    def test_at_the_bounds(self):
        levels = tuple(("low", (pair(BIG), (0, 1))) for _ in range(5))
        log = [(at % 5, "down", pair(-BIG + at * 10 ** 28 + Fraction(1, BIG)), pair(-BIG + at * 10 ** 28)) for at in range(60)]
        members = [(at % 5, pair(-BIG + at * 10 ** 28 + Fraction(2, BIG))) for at in range(20)]
        others = [(at % 5, pair(-BIG + at * 10 ** 28 + Fraction(1, 2 * BIG // 2))) for at in range(20)]
        self.assertIs(can_have(levels, log, members, others), True)
        self.assertEqual(len(sure_members(levels, log, 4)), 60)
        self.assertEqual(why_not(levels, log, members, others + [(0, pair(-BIG))]), ("told", 20))

    def test_no_level_first(self):
        for call in (lambda level: member_status(TWO, BAD, level, (1, 1)), lambda level: sure_members(TWO, BAD, level),
                     lambda level: free_stretches(TWO, BAD, level),
                     lambda level: why_not(TWO, BAD, ((0, (1, 1)), (level, (1, 1)), (9, (1, 1))), ((8, (1, 1)),)),
                     lambda level: can_have(TWO, BAD, ((0, (1, 1)),), ((1, (1, 1)), (level, (2, 1)), (7, (1, 1))))):
            for level in (2, -1):
                with self.assertRaises(NoPlace) as caught:
                    call(level)
                self.assertEqual(caught.exception.place, level)

    def test_logs_that_are_not_possible(self):
        for call in (lambda: member_status(TWO, BAD, 0, (1, 1)), lambda: sure_members(TWO, BAD, 1),
                     lambda: free_stretches(TWO, BAD, 0), lambda: why_not(TWO, BAD, (), ()),
                     lambda: can_have(TWO, BAD, ((0, (1, 2)),), ())):
            with self.assertRaises(Unfit):
                call()


if __name__ == "__main__":
    unittest.main()
